import PyProof.Rows.All
import Wide.All
import OpenK.AllK
import Wide.FinOn
import HandS.ForMost
import HandS.ForExc
import HandS.MakeKw
import HandS.FStr
import HandS.Conv
import HandS.ClsMeth
import KE.KCallOwn
import HandS.IsInst
import PyProof.InstEq
import HandS.Lambda
import HandS.ExcInit
import HandS.ExcIs
import HandS.ExcField
import KE.KExcIs
import KE.KExcSuper
import KE.KExcMake
import HandS.EndTab
import HandS.EndOwn
import HandS.NestedK
import PyProof.P3In
import PyProof.FactsAll.dict_1
import KE.KOpsOwn
import HandS.SlotsOwn
import HandS.Defaults
import PyProof.TwoTypes
import PyProof.Rows.FactsB_and
import PyProof.Rows.FactsB_or
import PyProof.Rows.FactsB_xor
import HandS.Property
import KE.RegKSuper
import HandS.GenList
import HandS.SetFor
import HandS.Strs
import HandS.Zip
import KE.OsRunLaw
import KE.KNestM
import HandS.TupAny
import HandS.Text
import PyProof.Rows.SeqMore
import PySem.Challenge.RW_keptbits_k09_a_family_of_bits
set_option Elab.async false
set_option linter.all false
set_option maxRecDepth 100000
set_option maxHeartbeats 4000000
/-! KG: defs that are promised something where nothing is being shown (no repr under way), so that repr of data is an exact text. -/
namespace KG
open PySem PySem.Spec PyProof.Rows L2

/-- the promise of a def, for callers around which nothing is being shown -/
structure Gd (P : Program) (w : World) (K : PySem.W.Frag) (mg : Str → Option Value) (base : Heap) (CX : CXT) (k : Nat) (f : Addr) (fd : FuncData) (ps : List Str) (sp : Sp) : Prop where
  len : ∀ vs H Q E, sp vs H Q E → vs.length = ps.length
  go : ∀ (A : Around) (outer : List Env) (s : Shared) (H : Hp) (args : Args) (us : List Value) (vs : List V) (Q : VK) (E : XK),
    Room k A → A.guards = some [] → Env0 P w K mg base A outer s H → BindsTo s fd args (ps.zip us) → Vals vs us → sp vs H Q E →
    codeAny (model P w) A (.call (.ref f) args) (CR CX outer P w H s Q E) s

section
variable {P : Program} {w : World} {K : PySem.W.Frag} {mg : Str → Option Value} {base : Heap} {CX : CXT} {k j : Nat} {f : Addr} {fd : FuncData} {ps : List Str} {sp sp' : Sp}
theorem Gd.mono (F : Gd P w K mg base CX j f fd ps sp) (h : j ≤ k) : Gd P w K mg base CX k f fd ps sp :=
  ⟨F.len, fun A o s H a us vs Q E rm => F.go A o s H a us vs Q E (rm.mono h)⟩
theorem Gd.imp (F : Gd P w K mg base CX k f fd ps sp) (h : ∀ vs H Q E, sp' vs H Q E → sp vs H Q E) : Gd P w K mg base CX k f fd ps sp' :=
  ⟨fun vs H Q E q => F.len vs H Q E (h _ _ _ _ q), fun A o s H a us vs Q E rm gd e0 bt rv q => F.go A o s H a us vs Q E rm gd e0 bt rv (h _ _ _ _ q)⟩
theorem Gd.of_ok (F : FnOk P w K mg base CX k f fd ps sp) : Gd P w K mg base CX k f fd ps sp :=
  ⟨F.len, fun A o s H a us vs Q E rm _ e0 bt rv q => F.run A o s H a us vs Q E rm e0 bt rv q⟩

/-- a def by its body -/
theorem gd_of {name qual : Str} {params : Arguments} {body : List Stmt} {scope : Scope} {dV kV doc pm cdv ct oc : Value} {an od : Option Addr}
    {osl : Array (Option Value)} {N : List Str}
    (found : K.lookup f = some ⟨oc, od, .func (PySem.W.fnOf name qual params body scope dV kV doc pm an cdv ct), osl⟩)
    (code : PySem.W.codeIn K cdv qual = true) (sc : FnScope N ps scope) (len : ∀ vs H Q E, sp vs H Q E → vs.length = ps.length)
    (inner : ∀ (A : Around) (outer : List Env) (s : Shared) (H : Hp) (vs : List V) (Q : VK) (E : XK),
      Room k (A.deeper (envOfC qual scope s.heap.objs.size f cdv)) → (A.deeper (envOfC qual scope s.heap.objs.size f cdv)).guards = some [] → sp vs H Q E →
      ∃ t, PSs (cxOf CX P w K mg base N qual scope f cdv A outer s H E) body t ∧ t { nx := fun _ H' => Q .non H', rt := Q } (start N vs) H) :
    Gd P w K mg base CX (k + 1) f (PySem.W.fnOf name qual params body scope dV kV doc pm an cdv ct) ps sp := by
  refine ⟨len, fun A outer s H args us vs Q E rm gd e0 bt rv q0 => ?_⟩
  have llen := len _ _ _ _ q0
  have kin : K.In s.heap := e0.mod.kin.keeps fun b o e => (e0.bs b o e).1
  have nolim : s.heap.NoLimit := e0.mod.nolimit.keeps fun b o e => (e0.bs b o e).1
  have kinds : ∀ y ∈ ps.zip us, scope.names.lookup y.1 = some .local ∨
      (scope.names.lookup y.1 = some .cell ∧ ((cellsFrom (s.heap.objs.size + 1) scope.names []).lookup y.1).isSome = true) := by
    intro ⟨n, v⟩ hy
    rcases sc.par n (List.of_mem_zip hy).1 with z | z
    · exact .inl z
    · exact .inr ⟨z, PySem.W.cellsFrom_some _ _ _ (.inl z)⟩
  refine codeAny_call_function rm.depth (kin _ _ found) rfl sc.co sc.gen rfl (PySem.W.codeRec_of kin code) (bt _ _ _ _ ?_)
  refine wpAny_newFunctionEnv_cells sc.kind kinds fun env he s1 x => ?_
  subst he
  refine ⟨nolim.keeps x.toInCall.keep, codeAny_func ?_⟩
  obtain ⟨t, ht, hq⟩ := inner A outer s H vs Q E (rm.deeper _) gd q0
  have I := inv_start (CX := CX) (E := E) sc rm.hd e0 llen rv x
  refine wpAny_mono (ht.run [] s1 (start N vs) H _ I hq) (fun fl s' hs => ?_) fun e s' hs => hs
  have done : ∀ {σ' : L2.St} {H' : Hp} {v : V} {u : Value}, Inv (cxOf CX P w K mg base N qual scope f cdv A outer s H E) [] σ' H' s' → RelV v u → Q v H' → CE outer P w H s Q u s' :=
    fun {σ' H' v u} J r q => ⟨v, H', J.os, J.bare, J.base, J.hok, r, q⟩
  cases fl with
  | ret u =>
    obtain ⟨v, σ', H', J, r, q⟩ := hs
    exact done J r q
  | next =>
    obtain ⟨σ', H', J, q⟩ := hs
    exact done (v := V.non) (u := Value.none) J rfl q
  | brk => exact hs.elim fun _ h => h.elim fun _ h => False.elim h.2
  | cont => exact hs.elim fun _ h => h.elim fun _ h => False.elim h.2

/-- a def of the text that raises nothing, by its body -/
theorem gd0 {x qual : Str} {st : Stmt} {N : List Str} (F : Fun K x qual st f fd) (sc : FnScope N ps (defScope st)) (len : ∀ vs H Q E, sp vs H Q E → vs.length = ps.length)
    (inner : ∀ (cdv : Value) (A : Around) (outer : List Env) (s : Shared) (H : Hp) (vs : List V) (Q : VK) (E : XK),
      Room k (A.deeper (envOfC qual (defScope st) s.heap.objs.size f cdv)) → (A.deeper (envOfC qual (defScope st) s.heap.objs.size f cdv)).guards = some [] → sp vs H Q E →
      ∃ t, PSs (cxOf CX0 P w K mg base N qual (defScope st) f cdv A outer s H E).nox (defBody st) t ∧ t { nx := fun _ H' => Q .non H', rt := Q } (start N vs) H) :
    Gd P w K mg base CX0 (k + 1) f fd ps sp := by
  obtain ⟨oc, od, kV, doc, pm, an, cdv, ct, osl, rfl, found, code⟩ := F.ex
  exact gd_of found code sc len fun A outer s H vs Q E rm gd q => (inner cdv A outer s H vs Q E rm gd q).elim fun t h => ⟨t, h.1.nox, h.2⟩
/-- a def of the text that may raise, by its body -/
theorem gdX {x qual : Str} {st : Stmt} {N : List Str} (F : Fun K x qual st f fd) (sc : FnScope N ps (defScope st)) (len : ∀ vs H Q E, sp vs H Q E → vs.length = ps.length)
    (inner : ∀ (cdv : Value) (A : Around) (outer : List Env) (s : Shared) (H : Hp) (vs : List V) (Q : VK) (E : XK),
      Room k (A.deeper (envOfC qual (defScope st) s.heap.objs.size f cdv)) → (A.deeper (envOfC qual (defScope st) s.heap.objs.size f cdv)).guards = some [] → sp vs H Q E →
      ∃ t, PSs (cxOf (L2.CX P w) P w K mg base N qual (defScope st) f cdv A outer s H E) (defBody st) t ∧ t { nx := fun _ H' => Q .non H', rt := Q } (start N vs) H) :
    Gd P w K mg base (L2.CX P w) (k + 1) f fd ps sp := by
  obtain ⟨oc, od, kV, doc, pm, an, cdv, ct, osl, rfl, found, code⟩ := F.ex
  exact gd_of found code sc len fun A outer s H vs Q E rm gd q => inner cdv A outer s H vs Q E rm gd q
end

/-! ### calls -/
section
variable {X : Cx} {CX : CXT} {k : Nat} {f C : Addr} {fd : FuncData} {ps ks : List Str} {sp : Sp} {dvs : List V} {ds : List Value} {E : XK} {x m : Str} {p pos apos : Pos} {e o : Expr} {es : List Expr} {kws : List Keyword} {ta te : TE} {t tk : TA}
/-- the callee runs, around it A with the same frames and nothing shown -/
theorem run_at {pins : List (Addr × Obj)} {σ : L2.St} {H : Hp} {s : Shared} {Q : VK} {us ws : List Value} {kw : List (Str × Value)} {vs : List V} {A : Around} {W : Value → Shared → Prop}
    (F : Gd X.prog X.w X.K X.mg X.base CX k f fd ps sp) (rm : Room k A) (gd : A.guards = some []) (e0 : Env0 X.prog X.w X.K X.mg X.base A X.stack s H)
    (pass : ∀ e s', CX X.stack H s E e s' → W e s')
    (I : Inv X pins σ H s) (bt : BindsTo s fd ⟨us, kw⟩ (ps.zip ws)) (r : Vals vs ws) (q : sp vs H Q E) : wpAny (model X.prog X.w) A (call (.ref f) us kw) (EP X pins σ Q) W s := by
  refine wpAny_call (codeAny_mono (F.go A X.stack s H ⟨us, kw⟩ ws vs Q E rm gd e0 bt r q) fun out s' hq => ?_)
  match out, hq with
  | .error e, hq => exact pass e s' hq
  | .ok (.ret u), hq => exact I.after hq
theorem run_g {pins : List (Addr × Obj)} {σ : L2.St} {H : Hp} {s : Shared} {Q : VK} {us ws : List Value} {kw : List (Str × Value)} {vs : List V}
    (F : Gd X.prog X.w X.K X.mg X.base CX k f fd ps sp) (rm : Room k X.A) (gd : X.A.guards = some []) (hx : Passes CX X E)
    (I : Inv X pins σ H s) (bt : BindsTo s fd ⟨us, kw⟩ (ps.zip ws)) (r : Vals vs ws) (q : sp vs H Q E) : wpAny (model X.prog X.w) X.A (call (.ref f) us kw) (EP X pins σ Q) X.xe s :=
  run_at F rm gd I.env0 (fun e s' hq => hx pins σ H s e s' I hq) I bt r q
theorem bind_pos {s : Shared} {us : List Value} {vs : List V} {H : Hp} {Q : VK} (F : Gd X.prog X.w X.K X.mg X.base CX k f fd ps sp) (hb : Binds X.K fd ps ds) (hd : Vals dvs ds) (KX : X.K.In s.heap) (r : Vals vs us) (q : sp (vs ++ dvs) H Q E) :
    BindsTo s fd ⟨us, []⟩ (ps.zip (us ++ ds)) := hb s us KX (by rw [← (r.append hd).length]; exact F.len _ _ _ _ q)

/-- f(e, ..) -/
theorem pe_gcall (F : Gd X.prog X.w X.K X.mg X.base CX k f fd ps sp) (rm : Room k X.A) (gd : X.A.guards = some []) (gl : Gl X x) (at_ : X.mg x = some (.ref f)) (kp : PySem.W.keepIn X.K (.ref f) = true) (hb : Binds X.K fd ps ds) (hd : Vals dvs ds) (hx : Passes CX X E)
    (ha : PA X (e :: es) t) (hdb : (x == ("__debug__" : Str)) = false := by decide) (he : starEach (e :: es) X.env = (false, eval e X.env) :: starEach es X.env := by rfl) (hpl : (backTo pos (starEach es X.env)).any (·.1) = false := by rfl) :
    PE X (.Call (.Name x p) (e :: es) [] pos) (tCall sp dvs E t) :=
  ⟨fun pins s σ H Q I h => wpAny_Call_Name_kw (ld_glob I gl at_ (PySem.W.callWith_K (h₀ := X.base) I.ok.mod.kin kp
    (thn (ha.run pos pins s σ H _ I h) fun us s1 ⟨vs, H1, J, r, q⟩ => ⟨J.kIn, run_g F rm gd hx J (bind_pos F hb hd J.kIn r q) (r.append hd) q⟩) he hpl) hdb)⟩
/-- f() -/
theorem pe_gcall0 (F : Gd X.prog X.w X.K X.mg X.base CX k f fd ps sp) (rm : Room k X.A) (gd : X.A.guards = some []) (gl : Gl X x) (at_ : X.mg x = some (.ref f)) (kp : PySem.W.keepIn X.K (.ref f) = true) (hb : Binds X.K fd ps ds) (hd : Vals dvs ds) (hx : Passes CX X E)
    (hdb : (x == ("__debug__" : Str)) = false := by decide) : PE X (.Call (.Name x p) [] [] pos) (tCall sp dvs E tNil) :=
  ⟨fun pins s σ H Q I h => wpAny_Call_Name_kw (ld_glob I gl at_ (PySem.W.callWith_K0 I.kIn kp (run_g (us := []) (vs := dvs) F rm gd hx I (bind_pos (vs := []) F hb hd I.kIn .nil h) (Vals.append .nil hd) h)) hdb)⟩
/-- o.m(e, ..) -/
theorem pe_gmeth {pl : Sem Bool} (he : PE X o ta) (c : Cls X.K C) (hm : Meth X.K C m f) (F : Gd X.prog X.w X.K X.mg X.base CX k f fd ps sp) (rm : Room k X.A) (gd : X.A.guards = some []) (hb : Binds X.K fd ps ds) (hd : Vals dvs ds) (hx : Passes CX X E) (ha : PA X (e :: es) t)
    (hst : starEach (e :: es) X.env = (false, eval e X.env) :: starEach es X.env := by rfl) (hpl : (backTo pos (starEach es X.env)).any (·.1) = false := by rfl)
    (ht : eval (.Call (.Attribute o m apos) (e :: es) [] pos) X.env = (do
      let w ← eval o X.env
      standAt apos.atName
      let (g, a) ← holding [w] (getMethod w m pl)
      callWith pos g a (backTo pos (starEach (e :: es) X.env)) (backToKw pos (keywordEach [] X.env))) := by rfl) :
    PE X (.Call (.Attribute o m apos) (e :: es) [] pos) (tMeth C m sp dvs E ta t) := by
  refine ⟨fun pins s σ H Q I h => PySem.W.methodCall_KW (pl := pl) (thn (he.run pins s σ H _ I h) fun u s1 ⟨y, H1, I1, ry, a, dx, fs, ey, ea, l, q⟩ => ?_) ht⟩
  subst ey
  obtain rfl : u = Value.ref a := ry
  refine getmeth_ok I1 ea c hm l (PySem.W.callWith_K (first := [.ref a]) (h₀ := X.base) I.ok.mod.kin hm.kp (thn (ha.run pos pins s1 σ H1 _ I1 q) fun us s2 ⟨vs, H2, J, r, q2⟩ => ⟨J.kIn, ?_⟩) hst hpl)
  have r1 : Vals (V.ref a :: vs) (Value.ref a :: us) := .cons rfl r
  exact run_g F rm gd hx J (bind_pos F hb hd J.kIn r1 q2) (r1.append hd) q2
/-- o.m() -/
theorem pe_gmeth0 {pl : Sem Bool} (he : PE X o ta) (c : Cls X.K C) (hm : Meth X.K C m f) (F : Gd X.prog X.w X.K X.mg X.base CX k f fd ps sp) (rm : Room k X.A) (gd : X.A.guards = some []) (hb : Binds X.K fd ps ds) (hd : Vals dvs ds) (hx : Passes CX X E)
    (ht : eval (.Call (.Attribute o m apos) [] [] pos) X.env = (do
      let w ← eval o X.env
      standAt apos.atName
      let (g, a) ← holding [w] (getMethod w m pl)
      callWith pos g a (backTo pos (starEach [] X.env)) (backToKw pos (keywordEach [] X.env))) := by rfl) :
    PE X (.Call (.Attribute o m apos) [] [] pos) (tMeth C m sp dvs E ta tNil) := by
  refine ⟨fun pins s σ H Q I h => PySem.W.methodCall_KW (pl := pl) (thn (he.run pins s σ H _ I h) fun u s1 ⟨y, H1, J, ry, a, dx, fs, ey, ea, l, q⟩ => ?_) ht⟩
  subst ey
  obtain rfl : u = Value.ref a := ry
  have r1 : Vals [V.ref a] [Value.ref a] := .cons rfl .nil
  exact getmeth_ok J ea c hm l (PySem.W.callWith_K0 (first := [.ref a]) J.kIn hm.kp (run_g (us := [.ref a]) F rm gd hx J (bind_pos (vs := [.ref a]) F hb hd J.kIn r1 q) (r1.append hd) q))

/-- some of a list, by places -/
def sel {α : Type} (is : List Nat) (l : List α) : List α := is.filterMap fun i => l[i]?
theorem sel_vals : ∀ (is : List Nat) {vs : List V} {us : List Value}, Vals vs us → Vals (sel is vs) (sel is us)
  | [], _, _, _ => .nil
  | i :: is, vs, us, r => by
    have ih := sel_vals is r
    unfold sel at ih ⊢
    rw [List.filterMap_cons, List.filterMap_cons]
    cases h : vs[i]? with
    | none => rw [r.none_of h]; exact ih
    | some v =>
      obtain ⟨u, e, rv⟩ := r.get h
      rw [e]
      exact .cons rv ih
/-- keywords behind n values: the keywords' values in the order of is -/
theorem kbn_of {K : PySem.W.Frag} {qual : Str} {st : Stmt} (F : Fun K x qual st f fd) (n : Nat) (ks : List Str) (is : List Nat)
    (h : ∀ (kV doc pm : Value) (an : Option Addr) (cdv ct : Value) (us ws : List Value), us.length = n → ws.length = ks.length →
      bindArgs (PySem.W.fnOf x qual (defArgs st) (defBody st) (defScope st) .none kV doc pm an cdv ct) ⟨us, ks.zip ws⟩ = pure (ps.zip (us ++ sel is ws))) :
    KBn K fd ps n ks (fun us ws => us ++ sel is ws) (fun vs zs => vs ++ sel is zs) := by
  obtain ⟨oc, od, kV, doc, pm, an, cdv, ct, osl, rfl, _, _⟩ := F.ex
  exact ⟨fun s us ws _ l1 l2 => .of_eq (h kV doc pm an cdv ct us ws l1 l2), fun r rz => r.append (sel_vals is rz)⟩
variable {n : Nat} {g : List Value → List Value → List Value} {gV : List V → List V → List V}
/-- o.m(k = v, ..) -/
def tMethK (C : Addr) (m : Str) (j : Nat) (sp : Sp) (gV : List V → List V → List V) (E : XK) (ta : TE) (tk : TA) : TE := fun σ H Q => ta σ H fun x H1 => ∃ a dx fs, x = .ref a ∧ H1 a = some (.ins C dx fs) ∧ fs.lookup m = none ∧
  tk σ H1 fun zs H2 => zs.length = j ∧ sp (gV [x] zs) H2 Q E
theorem pe_gmethK {pl : Sem Bool} (he : PE X o ta) (c : Cls X.K C) (hm : Meth X.K C m f) (F : Gd X.prog X.w X.K X.mg X.base CX k f fd ps sp) (rm : Room k X.A) (gd : X.A.guards = some []) (hb : KBn X.K fd ps 1 ks g gV) (hx : Passes CX X E) (hkw : PK X kws tk)
    (hall : (backToKw pos (keywordEach kws X.env)).all (·.1.isSome) = true := by rfl) (hks : (backToKw pos (keywordEach kws X.env)).filterMap (·.1) = ks := by rfl)
    (hpl : ((backTo pos (starEach [] X.env)).any (·.1) || (backToKw pos (keywordEach kws X.env)).any (·.1.isNone)) = false := by rfl)
    (ht : eval (.Call (.Attribute o m apos) [] kws pos) X.env = (do
      let w ← eval o X.env
      standAt apos.atName
      let (g, a) ← holding [w] (getMethod w m pl)
      callWith pos g a (backTo pos (starEach [] X.env)) (backToKw pos (keywordEach kws X.env))) := by rfl) :
    PE X (.Call (.Attribute o m apos) [] kws pos) (tMethK C m ks.length sp gV E ta tk) := by
  refine ⟨fun pins s σ H Q I h => PySem.W.methodCall_KW (pl := pl) (thn (he.run pins s σ H _ I h) fun u s1 ⟨y, H1, I1, ry, a, dx, fs, ey, ea, l, q⟩ => ?_) ht⟩
  subst ey
  obtain rfl : u = Value.ref a := ry
  refine getmeth_ok I1 ea c hm l (PySem.W.callWith_KW0 (first := [.ref a]) (h₀ := X.base) I.ok.mod.kin hm.kp hall (thn (hkw.run pos pins s1 σ H1 _ I1 q) fun ws s2 ⟨zs, H2, J, rz, lz, q2⟩ => ⟨J.kIn, ?_⟩) hpl)
  rw [hks]
  have r1 : Vals [V.ref a] [Value.ref a] := .cons rfl .nil
  exact run_g (us := [.ref a]) F rm gd hx J (hb.to s2 [.ref a] ws J.kIn rfl (rz.length.symm.trans lz)) (hb.rel r1 rz) q2

/-! ### new instances -/
theorem und_make {A : Around} {us : List Value} {kw : List (Str × Value)} : (A.under (.builtin "type.__call__" ⟨.ref C :: us, kw⟩)).guards = A.guards := by
  first | rfl | simp [Around.under, Code.guards, Code.isGuard, guardIds, pushGuards]
theorem run_gmake {pins : List (Addr × Obj)} {σ : L2.St} {H : Hp} {s : Shared} {Q : VK} {us : List Value} {kw : List (Str × Value)} (gW : Value → List Value) (gZ : V → List V) (M : Mk X.K C f) (F : Gd X.prog X.w X.K X.mg X.base CX k f fd ps sp) (rm : Room (k + 1) X.A) (gd : X.A.guards = some [])
    (hb : ∀ (s : Shared) (y : Addr), X.K.In s.heap → BindsTo s fd ⟨.ref y :: us, kw⟩ (ps.zip (gW (.ref y)))) (hv : ∀ y : Addr, Vals (gZ (.ref y)) (gW (.ref y)))
    (hx : Passes CX X E) (I : Inv X pins σ H s)
    (h : ∀ y dy, H y = none → H dy = none → dy ≠ y → sp (gZ (.ref y)) (upd (upd H dy (.own y)) y (.ins C dy [])) (fun v H2 => v = .non ∧ Q (.ref y) H2) E) :
    wpAny (model X.prog X.w) X.A (call (.ref C) us kw) (EP X pins σ Q) X.xe s := by
  have hq := h (s.heap.objs.size + 1) s.heap.objs.size (I.hok.fresh (Nat.le_succ _)) (I.hok.fresh (Nat.le_refl _)) (Nat.ne_of_lt (Nat.lt_succ_self _))
  have J := Inv.made (C := C) I
  refine wpAny_call (make_map (f := f) I.kIn M.makes M.init (beq_iff_eq.mp M.fn) (codeAny_mono (F.go _ X.stack _ _ ⟨Value.ref (s.heap.objs.size + 1) :: us, kw⟩ _ _ _ E (rm.make C us kw)
    (und_make.trans gd) (J.env0.make C us kw) (hb _ (s.heap.objs.size + 1) J.kIn) (hv _) hq) fun out s' hq' => ?_))
  match out, hq' with
  | .error e, hq' => exact hx pins σ _ _ e s' J hq'
  | .ok (.ret u), hq' =>
    obtain ⟨v, H', I3, rv, ev, q3⟩ := J.after hq'
    subst ev
    exact ⟨rv, ⟨V.ref (s.heap.objs.size + 1), H', I3, rfl, q3⟩⟩
/-- C(e, ..) -/
theorem pe_gmake (M : Mk X.K C f) (F : Gd X.prog X.w X.K X.mg X.base CX k f fd ps sp) (rm : Room (k + 1) X.A) (gd : X.A.guards = some []) (gl : Gl X x) (at_ : X.mg x = some (.ref C)) (hb : Binds X.K fd ps ds) (hd : Vals dvs ds) (hx : Passes CX X E)
    (ha : PA X (e :: es) t) (hdb : (x == ("__debug__" : Str)) = false := by decide) (he : starEach (e :: es) X.env = (false, eval e X.env) :: starEach es X.env := by rfl) (hpl : (backTo pos (starEach es X.env)).any (·.1) = false := by rfl) :
    PE X (.Call (.Name x p) (e :: es) [] pos) (tMake C sp dvs E t) := by
  refine ⟨fun pins s σ H Q I h => wpAny_Call_Name_kw (ld_glob I gl at_ (PySem.W.callWith_K (h₀ := X.base) I.ok.mod.kin M.kp (thn (ha.run pos pins s σ H _ I h) fun us s1 ⟨vs, H1, J, r, q⟩ => ⟨J.kIn, ?_⟩) he hpl) hdb)⟩
  have rr : ∀ y : Addr, Vals (V.ref y :: vs ++ dvs) (Value.ref y :: us ++ ds) := fun y => .cons rfl (r.append hd)
  have hl : ∀ y : Addr, (Value.ref y :: us ++ ds).length = ps.length := fun y => by
    have e := (rr y).length
    have q1 := q (s1.heap.objs.size + 1) s1.heap.objs.size (J.hok.fresh (Nat.le_succ _)) (J.hok.fresh (Nat.le_refl _)) (Nat.ne_of_lt (Nat.lt_succ_self _))
    have e1 := F.len _ _ _ _ q1
    rw [← e, ← e1]
    simp
  exact run_gmake (fun y => y :: us ++ ds) (fun y => y :: vs ++ dvs) M F rm gd (fun s y KX => hb s (.ref y :: us) KX (hl y)) rr hx J q
/-- C(k = v, ..) -/
def tMakeKG (C : Addr) (j : Nat) (sp : Sp) (gV : List V → List V → List V) (E : XK) (tk : TA) : TE := fun σ H Q => tk σ H fun zs H2 => zs.length = j ∧
  ∀ x dx, H2 x = none → H2 dx = none → dx ≠ x → sp (gV [.ref x] zs) (upd (upd H2 dx (.own x)) x (.ins C dx [])) (fun v H3 => v = .non ∧ Q (.ref x) H3) E
theorem pe_gmakeK (M : Mk X.K C f) (F : Gd X.prog X.w X.K X.mg X.base CX k f fd ps sp) (rm : Room (k + 1) X.A) (gd : X.A.guards = some []) (gl : Gl X x) (at_ : X.mg x = some (.ref C)) (hb : KBn X.K fd ps 1 ks g gV) (hx : Passes CX X E)
    (hkw : PK X kws tk) (hall : (backToKw pos (keywordEach kws X.env)).all (·.1.isSome) = true := by rfl) (hks : (backToKw pos (keywordEach kws X.env)).filterMap (·.1) = ks := by rfl)
    (hdb : (x == ("__debug__" : Str)) = false := by decide)
    (hpl : ((backTo pos (starEach [] X.env)).any (·.1) || (backToKw pos (keywordEach kws X.env)).any (·.1.isNone)) = false := by rfl) :
    PE X (.Call (.Name x p) [] kws pos) (tMakeKG C ks.length sp gV E tk) := by
  refine ⟨fun pins s σ H Q I h => wpAny_Call_Name_kw (ld_glob I gl at_ (PySem.W.callWith_KW0 (first := []) (h₀ := X.base) I.ok.mod.kin M.kp hall (thn (hkw.run pos pins s σ H _ I h) fun ws s2 ⟨zs, H2, J, rz, lz, q2⟩ => ⟨J.kIn, ?_⟩) hpl) hdb)⟩
  rw [hks]
  exact run_gmake (us := []) (fun y => g [y] ws) (fun y => gV [y] zs) M F rm gd (fun s y KX => hb.to s [.ref y] ws KX rfl (rz.length.symm.trans lz)) (fun y => hb.rel (.cons rfl .nil) rz) hx J q2
end
end KG

set_option Elab.async false
set_option linter.all false
set_option maxRecDepth 100000
set_option maxHeartbeats 4000000
/-! KR: the end of a law over such promises; repr of data, str of an own object, == and != by an own __eq__. -/
namespace KG
open PySem PySem.Spec PyProof.Rows L2

/-! ### the end: the law's def is called where nothing is shown -/
theorem law_gd {P : Program} {w : World} {K : PySem.W.Frag} {mg mb : Str → Option Value} {CX : CXT} {k : Nat} {fa a : Addr} {fd : FuncData} {x : Str} {sp : Sp} {s1 : Shared} {vs : List Value} {ns : List Int}
    (kin : K.In s1.heap) (nsm : s1.heap.Ns mainGlobals mg) (nsb : s1.heap.Ns builtinsNs mb) (mbb : ∀ x : Str, x ≠ "__name__" → mb x = bootBuiltins x) (lim : s1.heap.NoLimit) (nog : s1.gens = #[])
    (atA : s1.heap.get? a = some { cls := .type "list", data := .seq vs.toArray }) (isn : IntsAre vs ns) (small : ns.length ≤ sizeLine) (rm : Room k callerA)
    (F : ∀ base : Heap, K.In base → base.Ns mainGlobals mg → Gd P w K mg base CX k fa fd [x] sp) (bt : ∀ (s : Shared) (u : Value), BindsTo s fd ⟨[u], []⟩ [(x, u)])
    (start_ : ∀ H : Hp, Only H → SqL K H a (ns.map V.int) → sp [.ref a] H (fun v _ => v = .bl true) fun _ _ _ => False)
    (quiet : ∀ H e s', CX [] H s1 (fun _ _ _ => False) e s' → False) :
    codeAny (model P w) callerA (.call (.ref fa) ⟨[.ref a], []⟩) (fun r s' => r = .ok (.ret (.bool true)) ∧ OldK s1.heap s'.heap ∧ s'.os = s1.os ∧ AllBare s'.gens) s1 := by
  have rv := vals_ints isn
  have vlen := isn.length
  have from_ : ∀ H : Hp, Only H → SqL K H a (ns.map V.int) → HOk P w H s1.heap → (∀ b, H b ≠ none → b = a) → (H a ≠ none → K.lookup a = none) →
      codeAny (model P w) callerA (.call (.ref fa) ⟨[.ref a], []⟩) (fun r s' => r = .ok (.ret (.bool true)) ∧ OldK s1.heap s'.heap ∧ s'.os = s1.os ∧ AllBare s'.gens) s1 := by
    intro H only sq hok onlyA notK
    have free_of : ∀ {b : Addr} {o : Obj}, (H b ≠ none → b = a → False) → H b = none := fun {b o} h => by
      by_cases z : H b = none
      · exact z
      · exact (h z (onlyA b z)).elim
    have dict_free : ∀ {b : Addr} {o : Obj} {es : Array DictEntry} {ep : Nat}, s1.heap.get? b = some o → o.data = .dict es ep → H b = none := fun {b o es ep} e d =>
      free_of (o := o) fun _ eb => by
        rw [eb, atA] at e
        cases e
        exact nomatch d
    have ns_hid : ∀ {b : Addr} {m : Str → Option Value}, s1.heap.Ns b m → (hidT s1.heap H).Ns b m :=
      fun {b m} ⟨o, es, ep, e, d, r⟩ => ⟨o, es, ep, hidT_get e (dict_free e d), d, r⟩
    have kin_hid : K.In (hidT s1.heap H) := fun b o e => hidT_get (kin b o e) (free_of (o := o) fun z eb => by
      rw [eb] at e z
      rw [notK z] at e
      cases e)
    have mod : Mod K mg (hidT s1.heap H) := ⟨kin_hid, ns_hid nsm, ⟨mb, ns_hid nsb, mbb⟩, lim.elim fun mc h => ⟨mc, ns_hid h.1, h.2⟩⟩
    have e0 : Env0 P w K mg (hidT s1.heap H) callerA [] s1 H := ⟨rfl, mod, fun b o e => of_hidT e, Nat.le_of_eq (hidT_size _ _), trivial, fun b hb => absurd (show b ∈ ([] : List Addr) from hb) List.not_mem_nil, hok, .of_eq nog⟩
    refine codeAny_mono ((F _ kin_hid (ns_hid nsm)).go callerA [] s1 H ⟨[.ref a], []⟩ [.ref a] [.ref a] _ _ rm rfl e0 (bt s1 (.ref a)) (.cons rfl .nil) (start_ H only sq)) fun r s' h => ?_
    match r, h with
    | .error e, h => exact (quiet H e s' h).elim
    | .ok (.ret u), h =>
      obtain ⟨v, H', os, bare, un, hok', r', q⟩ := h
      have q' : v = .bl true := q
      subst q'
      obtain rfl : u = Value.bool true := r'
      refine ⟨rfl, OldK.of_keep fun b o e => ?_, os, bare⟩
      cases z : H b with
      | none => exact un.keep b o e z (by intro y; cases y) (by simp)
      | some t =>
        rcases only b with y | ⟨ob, xs, y⟩
        · rw [z] at y
          cases y
        · have y2 := un.frzs b ob _ y
          obtain ⟨g1, _⟩ := hok b _ y
          obtain ⟨g2, _⟩ := hok' b _ y2
          rw [e] at g1
          cases g1
          exact g2
  cases hk : K.lookup a with
  | some o =>
    have e := kin a o hk
    rw [atA] at e
    cases e
    exact from_ (fun _ => none) (fun _ => .inl rfl) (.inr ⟨_, vs.toArray, _, hk, rfl, rfl, rfl, by rw [List.size_toArray, vlen]; exact small, by simpa using rv⟩) (fun b u z => by cases z) (fun b z => absurd rfl z) fun z => absurd rfl z
  | none =>
    have at_a : ∀ {b : Addr} {u : HO}, (if b = a then some (HO.frz { cls := .type "list", data := .seq vs.toArray } (.lst (ns.map V.int))) else none) = some u → b = a := fun {b u} z => by
      by_cases hb : b = a
      · exact hb
      · rw [if_neg hb] at z
        cases z
    refine from_ (fun b => if b = a then some (.frz { cls := .type "list", data := .seq vs.toArray } (.lst (ns.map V.int))) else none) (fun b => ?_) (.inl (.inr ⟨{ cls := .type "list", data := .seq vs.toArray }, if_pos rfl⟩)) (fun b u z => ?_) (fun b z => ?_) fun _ => hk
    · by_cases hb : b = a
      · exact .inr ⟨_, _, if_pos hb⟩
      · exact .inl (if_neg hb)
    · obtain rfl := at_a z
      have z' := (if_pos rfl).symm.trans z
      cases z'
      exact ⟨atA, by rw [List.length_map]; exact small, vs, _, rv, atA⟩
    · by_cases hb : b = a
      · exact hb
      · exact absurd (if_neg hb) z

/-- the law's walk, from its promise where nothing is shown -/
theorem walk_gd {l : PySem.W.OpenLaw} {n k : Nat} {q : Program} {loose : List Str} {XP : (Str → Option Value) → Heap → Prop} {YP : World → Heap → Prop} {d : DefRec} {K : Params → PySem.W.Frag} {CX : World → CXT} {sp : World → Sp} {x : Str}
    (most : l.most = some n) (n2 : n ≤ sizeLine) (nod : d.params.defaults = []) (rm : Room k callerA)
    (hY : ∀ (w : World) (h : Heap), YP w h → (K w.params).In h)
    (F : ∀ (w : World) (mg : Str → Option Value) (fa : Addr) (h : Heap), (K w.params).In h → h.Ns mainGlobals mg → mg d.name = some (.ref fa) →
      ∃ fd : FuncData, (∀ (s : Shared) (u : Value), BindsTo s fd ⟨[u], []⟩ [(x, u)]) ∧
        ∀ base : Heap, (K w.params).In base → base.Ns mainGlobals mg → Gd l.prog w (K w.params) mg base (CX w) k fa fd [x] (sp w))
    (start_ : ∀ (w : World) (H : Hp) (a : Addr) (ns : List Int), ns.length ≤ n → Only H → SqL (K w.params) H a (ns.map V.int) → sp w [.ref a] H (fun v _ => v = .bl true) fun _ _ _ => False)
    (quiet : ∀ (w : World) (H : Hp) (s : Shared) (e : Value) (s' : Shared), CX w [] H s (fun _ _ _ => False) e s' → False) :
    PySem.W.WalkO q loose XP YP l.row.toRowW d [] (fun f vs => PySem.call f vs) := by
  refine Att.attach_call most nod fun w s0 s1 mg mb fa o pm cd doc a vs ns G Y ho hd hcd hmg hobj hints hlen hg => ?_
  have kin := hY w _ Y
  obtain ⟨fd, hb, hF⟩ := F w mg fa _ kin G.T.g hmg
  exact law_gd kin G.T.g G.T.b G.T.builtins G.T.nolimit hg hobj hints (Nat.le_trans hlen n2) rm hF hb (fun H hO hS => start_ w H a ns hlen hO hS) fun H e s' => quiet w H s1 e s'

/-- .. where the promise hangs on the written part alone -/
theorem walk_gdK {l : PySem.W.OpenLaw} {n k : Nat} {q : Program} {loose : List Str} {XP : (Str → Option Value) → Heap → Prop} {YP : World → Heap → Prop} {d : DefRec} {K : Params → PySem.W.Frag} {CX : CXT} {sp : PySem.W.Frag → Sp} {x : Str}
    (most : l.most = some n) (n2 : n ≤ sizeLine) (nod : d.params.defaults = []) (rm : Room k callerA)
    (hY : ∀ (w : World) (h : Heap), YP w h → (K w.params).In h)
    (F : ∀ (w : World) (mg : Str → Option Value) (fa : Addr) (h : Heap), (K w.params).In h → h.Ns mainGlobals mg → mg d.name = some (.ref fa) →
      ∃ fd : FuncData, (∀ (s : Shared) (u : Value), BindsTo s fd ⟨[u], []⟩ [(x, u)]) ∧
        ∀ base : Heap, (K w.params).In base → base.Ns mainGlobals mg → Gd l.prog w (K w.params) mg base CX k fa fd [x] (sp (K w.params)))
    (start_ : ∀ (K : PySem.W.Frag) (H : Hp) (a : Addr) (ns : List Int), ns.length ≤ n → Only H → SqL K H a (ns.map V.int) → sp K [.ref a] H (fun v _ => v = .bl true) fun _ _ _ => False)
    (quiet : ∀ (H : Hp) (s : Shared) (e : Value) (s' : Shared), CX [] H s (fun _ _ _ => False) e s' → False) :
    PySem.W.WalkO q loose XP YP l.row.toRowW d [] (fun f vs => PySem.call f vs) :=
  walk_gd (K := K) (CX := fun _ => CX) (sp := fun w => sp (K w.params)) most n2 nod rm hY F (fun w H a ns h1 h2 h3 => start_ (K w.params) H a ns h1 h2 h3) fun _ H s e s' => quiet H s e s'

/-! ### repr of data -/
section
variable {X : Cx}
/-- repr(x), x data: none, bools, ints, texts, lists, tuples -/
def rRepr (K : PySem.W.Frag) : List V → Hp → VK → Prop := fun xs H Q => ∃ x d, xs = [x] ∧ Dp K H x d ∧ d.showable = true ∧ d.hasDict = false ∧ d.depth ≤ 40 ∧ d.shown.length ≤ sizeLine ∧ Q (.str d.shown) H
theorem call_repr {k : Nat} (rm : Room k X.A) (gd : X.A.guards = some []) : CallR X (.builtin "repr") (rRepr X.K) := by
  intro pins s σ H xs us Q I r h
  obtain ⟨x, d, rfl, hd, sh, nd, dp, sz, q⟩ := h
  obtain ⟨u, rfl, r1⟩ := vals1 r
  obtain ⟨as, rd⟩ := Dp.reads I d x u hd r1
  have room := rm.units
  have fin : ∀ (s' : Shared) (tk : Tok), Inv X pins σ H s' → EP X pins σ Q (.str d.shown tk) s' := fun s' tk J => ⟨.str d.shown, H, J, ⟨tk, rfl⟩, q⟩
  have intsz : ∀ i : Int, d = .int i → i.natAbs.log2 < 1920 := fun i e => by
    subst e
    simpa [PyData.showable] using sh
  cases hd with
  | non =>
    cases r1
    rw [PyData.shown_none] at q
    exact PySem.P.repr_of_none ⟨.str _, H, I.tok _, ⟨_, rfl⟩, q⟩
  | bl b =>
    cases r1
    rw [PyData.shown_bool] at q
    exact PySem.P.repr_of_bool ⟨.str _, H, I.tok _, ⟨_, rfl⟩, by cases b <;> exact q⟩
  | int i =>
    obtain ⟨t, rfl⟩ := r1
    rw [PyData.shown_int] at q
    exact PySem.P.repr_of_int (intsz i rfl) ⟨.str _, H, I.tok _, ⟨_, rfl⟩, q⟩
  | str z =>
    obtain ⟨t, rfl⟩ := r1
    rw [PyData.shown_str] at q sz
    exact PySem.P.repr_of_str ⟨.str _, H, I.tok _, ⟨_, rfl⟩, q⟩ sz
  | lst _ _ =>
    cases r1
    exact repr_of_reads' rd sh (fun z => by rw [nd] at z; cases z) gd (by omega) (fun _ _ z => z) (fun h' u tk keep => fin _ _ (I.kept (t' := tk) keep)) sz
  | tup _ _ =>
    cases r1
    exact repr_of_reads' rd sh (fun z => by rw [nd] at z; cases z) gd (by omega) (fun _ _ z => z) (fun h' u tk keep => fin _ _ (I.kept (t' := tk) keep)) sz
end

/-! ### str(o), o an own object with its own __str__ -/
section
variable {X : Cx} {CX : CXT} {k : Nat} {f C : Addr} {fd : FuncData} {ps : List Str} {sp : Sp} {E : XK}
theorem in1_gd {A : Around} (h : A.guards = some []) : A.in1.guards = some [] := h
def rStrO (C : Addr) (sp : Sp) (E : XK) : List V → Hp → VK → Prop := fun xs H Q => ∃ a dx fs, xs = [.ref a] ∧ H a = some (.ins C dx fs) ∧ sp [.ref a] H (fun v H' => ∃ z, v = .str z ∧ Q (.str z) H') E
theorem call_strO (F : Gd X.prog X.w X.K X.mg X.base CX k f fd ps sp) (rm : Room (k + 2) X.A) (gd : X.A.guards = some []) (hs : PySem.W.findIn X.K (.ref C) "__str__" = some (some (.ref f))) (hf : PySem.W.isFn X.K (.ref f) = true)
    (hb : Binds X.K fd ps []) (hx : Passes CX X E) : CallR X (.type "str") (rStrO C sp E) := by
  intro pins s σ H xs us Q I r h
  obtain ⟨a, dx, fs, rfl, ea, q⟩ := h
  obtain ⟨u, rfl, r1⟩ := vals1 r
  obtain rfl : u = Value.ref a := r1
  obtain ⟨mA, J, _⟩ := ins_get I.hok ea
  obtain ⟨od, J, _⟩ := J.look
  have room := rm.units
  refine PySem.W.kso_call (by show X.A.units + 1 + 1 < cLine; omega) I.kIn J hs hf ?_
  have r2 : Vals [V.ref a] [Value.ref a] := .cons rfl .nil
  have bt := bind_pos (dvs := []) (vs := [V.ref a]) F hb .nil I.kIn r2 q
  refine wpAny_mono (run_at (us := [.ref a]) F rm.in1.in1 (in1_gd (in1_gd gd)) I.env0.in1.in1 (fun e s' hq => hx pins σ H s e s' I hq) I bt r2 q) (fun v s' hv => ?_) fun _ _ z => z
  obtain ⟨z, H', J', rz, y, ey, q'⟩ := hv
  subst ey
  obtain ⟨t, rfl⟩ := rz
  exact ⟨.str y, H', J', ⟨t, rfl⟩, q'⟩

/-! ### == and != by an own __eq__ -/
theorem ne_bound {M : Model} {A : Around} {W : Value → Shared → Prop} {s : Shared} {K : PySem.W.Frag} {x C : Addr} {ox : Obj} {od : Option Obj} {args : List Value} {Q : Option Value → Shared → Prop} (kin : K.In s.heap) (J : PySem.W.InstAt s.heap x ox C od)
    (hs : PySem.W.findIn K (.ref C) "__ne__" = some (some (.builtin "object.__ne__"))) (h : wpAny M A (call (.builtin "object.__ne__") (.ref x :: args)) (fun v => Q (some v)) W s) :
    wpAny M A (callSpecialIfBound? (.ref x) "__ne__" args) Q W s := by
  simp only [callSpecialIfBound?, bindSpecialIfBound?]
  refine wpAny_holding (wpAny_bind (wpAny_bind (wpAny_bind (J.type.here ((PySem.W.looks_findIn kin hs).here ?_)))))
  refine wpAny_bind (wpAny_askSetting (wpAny_ite ?_))
  have last : wpAny M A (call (.builtin "object.__ne__") ([.ref x] ++ args) >>= fun v => pure (some v)) Q W s :=
    wpAny_bind (wpAny_mono h (fun v s' z => wpAny_pure z) fun _ _ z => z)
  split
  · exact wpAny_bind (wpAny_of_eq (F.cmp_object.ne.bind _) (wpAny_pure (by exact last)))
  · exact wpAny_tryCatch (wpAny_bind (wpAny_of_eq (F.cmp_object.ne.bind _) (wpAny_pure (by exact last))))
theorem ne_own {prog : Program} {w : World} {A : Around} {W : Value → Shared → Prop} {s : Shared} {K : PySem.W.Frag} {x C f : Addr} {ox : Obj} {od : Option Obj} {b tb : Value} {Q : Value → Shared → Prop} (hu : A.units + 1 < cLine) (kin : K.In s.heap) (J : PySem.W.InstAt s.heap x ox C od)
    (hb : PySem.W.Looks (model prog w) s.heap (typeOf b) tb) (hn : PySem.W.notFirst K C tb = true) (hm : PySem.W.mroIn K C (.type "object") = some true)
    (hs : PySem.W.findIn K (.ref C) "__ne__" = some (some (.builtin "object.__ne__"))) (he : PySem.W.findIn K (.ref C) "__eq__" = some (some (.ref f))) (hf : PySem.W.isFn K (.ref f) = true)
    (h : wpAny (model prog w) A.in1 (call (.ref f) [.ref x, b]) (fun v s' => ∃ c, v = .bool c ∧ Q (.bool (!c)) s') W s) : wpAny (model prog w) A (richCompare .NotEq (.ref x) b) Q W s := by
  have one : wpAny (model prog w) A (tryCompare (.ref x) "__ne__" b) (fun r s' => ∃ v, r = some v ∧ Q v s') W s := by
    unfold tryCompare
    refine wpAny_bind (ne_bound kin J hs (wpAny_call (codeAny_call_builtin F.cmp_object.ne.plain F.cmpEntry_ne
      (PySem.W.check_slot F.cmpKind_ne F.cmpSplit_ne (J.type.andThen (PySem.W.looks_mroIn kin hm)) (F.cmpArgs_ne _ _) ?_))))
    show wpAny _ _ (Builtin.«object.__ne__» ⟨[.ref x, b], []⟩) _ _ s
    unfold Builtin.«object.__ne__»
    refine wpAny_bind (m := slotArgs "__ne__" 1 _) (wpAny_pure ?_)
    refine wpAny_bind (wpAny_cRoomFor (by show A.units + 1 < cLine; omega) ?_)
    refine wpAny_bind (m := callSpecialIfBound? (.ref x) (Str.ofString "__eq__") [b]) (PySem.W.ifBound_K kin J he hf (wpAny_mono h (fun v s' hv => ?_) fun _ _ z => z))
    obtain ⟨c, rfl, q⟩ := hv
    refine wpAny_bind (wpAny_truthy_bool ?_)
    exact wpAny_pure (wpAny_pure ⟨_, rfl, q⟩)
  unfold richCompare
  simp only [oneThing_ref]
  refine wpAny_holding (wpAny_bind (wpAny_cRoomFor (by omega) ?_))
  refine wpAny_bind (J.type.here (wpAny_bind (hb.here ?_)))
  split
  · rename_i q
    have e : PySem.W.subIn K tb (.ref C) = some false := by
      rcases Bool.or_eq_true_iff.mp hn with e | e
      · rw [beq_iff_eq.mp e] at q
        simp at q
      · exact beq_iff_eq.mp e
    refine wpAny_bind ((PySem.W.looks_subIn kin e).here ?_)
    simp only [Bool.false_eq_true, if_false]
    refine wpAny_bind (m := tryCompare (.ref x) _ b) (wpAny_mono one (fun r s' z => ?_) fun _ _ e => e)
    obtain ⟨v, rfl, hq⟩ := z
    exact wpAny_pure hq
  · refine wpAny_bind (wpAny_pure ?_)
    simp only [Bool.false_eq_true, if_false]
    refine wpAny_bind (m := tryCompare (.ref x) _ b) (wpAny_mono one (fun r s' z => ?_) fun _ _ e => e)
    obtain ⟨v, rfl, hq⟩ := z
    exact wpAny_pure hq

/-- o == y, o != y: the own __eq__ answers (y: the same class, or a thing whose type is no class below it) -/
def rEqO (K : PySem.W.Frag) (C : Addr) (neg : Bool) (sp : Sp) (E : XK) : R2 := fun x y H Q => ∃ a dx fs t, x = .ref a ∧ H a = some (.ins C dx fs) ∧ TyX K H y t ∧ PySem.W.notFirst K C t = true ∧
  sp [.ref a, y] H (fun v H' => ∃ c, v = .bl c ∧ Q (.bl (if neg then !c else c)) H') E
theorem op_eqO (F : Gd X.prog X.w X.K X.mg X.base CX k f fd ps sp) (rm : Room k X.A) (gd : X.A.guards = some []) (hs : PySem.W.findIn X.K (.ref C) "__eq__" = some (some (.ref f))) (hf : PySem.W.isFn X.K (.ref f) = true)
    (hb : Binds X.K fd ps []) (hx : Passes CX X E) : OpR X (compareOp .Eq) (rEqO X.K C false sp E) := by
  intro pins s σ H x y v u Q I rx ry h
  obtain ⟨a, dx, fs, t, rfl, ea, ty, nf, q⟩ := h
  obtain rfl : v = Value.ref a := rx
  obtain ⟨mA, J, _⟩ := ins_get I.hok ea
  obtain ⟨od, J, _⟩ := J.look
  obtain ⟨m, fr⟩ := I.fr
  obtain ⟨_, Z, pz, _⟩ := kit_of I ry ty
  have r2 : Vals [V.ref a, y] [Value.ref a, u] := .cons rfl (.cons ry .nil)
  have bt := bind_pos (dvs := []) (vs := [V.ref a, y]) F hb .nil I.kIn r2 q
  refine PySem.W.cmp_K (op := .Eq) rm.units0 fr I.ok.mod.kin J (Z.ty _ _ I.kIn pz) nf hs hf ?_
  refine wpAny_mono (run_g (us := [.ref a, u]) F rm gd hx I bt r2 q) (fun v s' hv => ?_) fun _ _ z => z
  obtain ⟨z, H', J', rz, c, ez, q'⟩ := hv
  subst ez
  obtain rfl : v = Value.bool c := rz
  exact ⟨.bl c, H', J', rfl, q'⟩
theorem op_neO (F : Gd X.prog X.w X.K X.mg X.base CX k f fd ps sp) (rm : Room (k + 1) X.A) (gd : X.A.guards = some []) (hs : PySem.W.findIn X.K (.ref C) "__eq__" = some (some (.ref f))) (hf : PySem.W.isFn X.K (.ref f) = true)
    (hn : PySem.W.findIn X.K (.ref C) "__ne__" = some (some (.builtin "object.__ne__"))) (hm : PySem.W.mroIn X.K C (.type "object") = some true)
    (hb : Binds X.K fd ps []) (hx : Passes CX X E) : OpR X (compareOp .NotEq) (rEqO X.K C true sp E) := by
  intro pins s σ H x y v u Q I rx ry h
  obtain ⟨a, dx, fs, t, rfl, ea, ty, nf, q⟩ := h
  obtain rfl : v = Value.ref a := rx
  obtain ⟨mA, J, _⟩ := ins_get I.hok ea
  obtain ⟨od, J, _⟩ := J.look
  obtain ⟨_, Z, pz, _⟩ := kit_of I ry ty
  have r2 : Vals [V.ref a, y] [Value.ref a, u] := .cons rfl (.cons ry .nil)
  have bt := bind_pos (dvs := []) (vs := [V.ref a, y]) F hb .nil I.kIn r2 q
  have room := rm.units
  refine ne_own (by omega) I.kIn J (Z.ty _ _ I.kIn pz) nf hm hn hs hf ?_
  refine wpAny_mono (run_at (us := [.ref a, u]) F rm.in1 (in1_gd gd) I.env0.in1 (fun e s' hq => hx pins σ H s e s' I hq) I bt r2 q) (fun v s' hv => ?_) fun _ _ z => z
  obtain ⟨z, H', J', rz, c, ez, q'⟩ := hv
  subst ez
  obtain rfl : v = Value.bool c := rz
  exact ⟨c, rfl, .bl (!c), H', J', rfl, q'⟩
end
end KG

set_option Elab.async false
set_option linter.all false
set_option maxRecDepth 100000
set_option maxHeartbeats 4000000
/-! KS: defs, methods and classes by name; the readings' steps, one lemma each, for walk_at "go". -/
namespace KG
open PySem PySem.Spec PyProof.Rows L2

/-! ### defs by name -/
/-- how the arguments of a def of the text bind, by place -/
def BindOk (x qual : Str) (st : Stmt) (ps : List Str) : Prop := ∀ (kV doc pm : Value) (an : Option Addr) (cdv ct : Value) (us : List Value), us.length = ps.length →
  bindArgs (PySem.W.fnOf x qual (defArgs st) (defBody st) (defScope st) .none kV doc pm an cdv ct) ⟨us, []⟩ = pure (ps.zip us)
/-- .. n by place, then by keywords, is: the keywords' places -/
def BindOkK (x qual : Str) (st : Stmt) (ps : List Str) (n : Nat) (ks : List Str) (is : List Nat) : Prop := ∀ (kV doc pm : Value) (an : Option Addr) (cdv ct : Value) (us ws : List Value), us.length = n → ws.length = ks.length →
  bindArgs (PySem.W.fnOf x qual (defArgs st) (defBody st) (defScope st) .none kV doc pm an cdv ct) ⟨us, ks.zip ws⟩ = pure (ps.zip (us ++ sel is ws))
/-- the def st stands under the name x -/
structure DefAt (K : PySem.W.Frag) (mg : Str → Option Value) (x : Str) (st : Stmt) (ps : List Str) : Prop where
  ex : ∃ f fd, mg x = some (.ref f) ∧ Fun K x x st f fd ∧ Binds K fd ps []
theorem defAt_of {K : PySem.W.Frag} {h : Heap} {mg : Str → Option Value} (X : K.In h) (G : h.Ns mainGlobals mg) {x : Str} {st : Stmt} {ps : List Str} {f : Addr} {oc kV doc pm cdv ct : Value} {od an : Option Addr} {sl : Array (Option Value)}
    (a : PySem.W.nsIn K mainGlobals x = some (some (.ref f))) (l : K.lookup f = some ⟨oc, od, .func (PySem.W.fnOf x x (defArgs st) (defBody st) (defScope st) .none kV doc pm an cdv ct), sl⟩)
    (c : PySem.W.codeIn K cdv x = true) (k : PySem.W.keepIn K (.ref f) = true) (b : BindOk x x st ps) : DefAt K mg x st ps :=
  have F := fun_mk (st := st) l c k
  ⟨⟨f, _, PySem.W.mg_of X G a, F, F.binds b⟩⟩
/-- the method st of the class at C -/
structure MetAt (K : PySem.W.Frag) (C : Addr) (m qual : Str) (st : Stmt) (ps : List Str) (f : Addr) : Prop where
  ex : ∃ fd, Meth K C m f ∧ Fun K m qual st f fd ∧ Binds K fd ps []
theorem metAt_of {K : PySem.W.Frag} {C : Addr} {m qual : Str} {st : Stmt} {ps : List Str} {f : Addr} {oc kV doc pm cdv ct : Value} {od an : Option Addr} {sl : Array (Option Value)}
    (a : PySem.W.findIn K (.ref C) m = some (some (.ref f))) (i : PySem.W.isFn K (.ref f) = true) (l : K.lookup f = some ⟨oc, od, .func (PySem.W.fnOf m qual (defArgs st) (defBody st) (defScope st) .none kV doc pm an cdv ct), sl⟩)
    (c : PySem.W.codeIn K cdv qual = true) (k : PySem.W.keepIn K (.ref f) = true) (b : BindOk m qual st ps) : MetAt K C m qual st ps f :=
  have F := fun_mk (st := st) l c k
  ⟨⟨_, ⟨a, i, k⟩, F, F.binds b⟩⟩
/-- the def st, promised sp, nothing raised -/
def Cal (P : Program) (w : World) (K : PySem.W.Frag) (mg : Str → Option Value) (base : Heap) (j : Nat) (x : Str) (sp : Sp) : Prop :=
  ∃ f fd ps, mg x = some (.ref f) ∧ PySem.W.keepIn K (.ref f) = true ∧ Binds K fd ps [] ∧ Gd P w K mg base CX0 j f fd ps sp
def Met (P : Program) (w : World) (K : PySem.W.Frag) (mg : Str → Option Value) (base : Heap) (j : Nat) (C : Addr) (m : Str) (f : Addr) (sp : Sp) : Prop :=
  ∃ fd ps, Meth K C m f ∧ Binds K fd ps [] ∧ Gd P w K mg base CX0 j f fd ps sp
def MetK (P : Program) (w : World) (K : PySem.W.Frag) (mg : Str → Option Value) (base : Heap) (j : Nat) (C : Addr) (m : Str) (f : Addr) (ks : List Str) (is : List Nat) (sp : Sp) : Prop :=
  ∃ fd ps, Meth K C m f ∧ KBn K fd ps 1 ks (fun us ws => us ++ sel is ws) (fun vs zs => vs ++ sel is zs) ∧ Gd P w K mg base CX0 j f fd ps sp
section
variable {P : Program} {w : World} {K : PySem.W.Frag} {mg : Str → Option Value} {base : Heap} {k : Nat} {x m qual : Str} {st : Stmt} {ps N : List Str} {sp : Sp} {C f : Addr}
/-- a def by its body -/
theorem DefAt.cal (D : DefAt K mg x st ps) (sc : FnScope N ps (defScope st)) (len : ∀ vs H Q E, sp vs H Q E → vs.length = ps.length)
    (inner : ∀ (f : Addr) (cdv : Value) (A : Around) (outer : List Env) (s : Shared) (H : Hp) (vs : List V) (Q : VK) (E : XK),
      Room k (A.deeper (envOfC x (defScope st) s.heap.objs.size f cdv)) → (A.deeper (envOfC x (defScope st) s.heap.objs.size f cdv)).guards = some [] → sp vs H Q E →
      ∃ t, PSs (cxOf CX0 P w K mg base N x (defScope st) f cdv A outer s H E).nox (defBody st) t ∧ t { nx := fun _ H' => Q .non H', rt := Q } (start N vs) H) :
    Cal P w K mg base (k + 1) x sp := by
  obtain ⟨f, fd, a, F, b⟩ := D.ex
  exact ⟨f, fd, ps, a, F.kp, b, gd0 F sc len (inner f)⟩
theorem MetAt.gd (D : MetAt K C m qual st ps f) (sc : FnScope N ps (defScope st)) (len : ∀ vs H Q E, sp vs H Q E → vs.length = ps.length)
    (inner : ∀ (cdv : Value) (A : Around) (outer : List Env) (s : Shared) (H : Hp) (vs : List V) (Q : VK) (E : XK),
      Room k (A.deeper (envOfC qual (defScope st) s.heap.objs.size f cdv)) → (A.deeper (envOfC qual (defScope st) s.heap.objs.size f cdv)).guards = some [] → sp vs H Q E →
      ∃ t, PSs (cxOf CX0 P w K mg base N qual (defScope st) f cdv A outer s H E).nox (defBody st) t ∧ t { nx := fun _ H' => Q .non H', rt := Q } (start N vs) H) :
    ∃ fd, Meth K C m f ∧ Fun K m qual st f fd ∧ Binds K fd ps [] ∧ Gd P w K mg base CX0 (k + 1) f fd ps sp := by
  obtain ⟨fd, a, F, b⟩ := D.ex
  exact ⟨fd, a, F, b, gd0 F sc len inner⟩
end
section
variable {X : Cx} {j k : Nat} {x m qual : Str} {sp : Sp} {C f : Addr} {p pos apos : Pos} {e o : Expr} {es : List Expr} {kws : List Keyword} {ta te : TE} {t tk : TA} {ks : List Str} {is : List Nat} {pl : Sem Bool}
theorem pc (c : Cal X.prog X.w X.K X.mg X.base j x sp) (rm : Room k X.A) (hk : j ≤ k) (gd : X.A.guards = some []) (gl : Gl X x) (ha : PA X (e :: es) t)
    (hdb : (x == ("__debug__" : Str)) = false := by decide) (he : starEach (e :: es) X.env = (false, eval e X.env) :: starEach es X.env := by rfl) (hpl : (backTo pos (starEach es X.env)).any (·.1) = false := by rfl) :
    PE X (.Call (.Name x p) (e :: es) [] pos) (tCall sp [] E0 t) := by
  obtain ⟨f, fd, ps, a, kp, b, F⟩ := c
  exact pe_gcall F (rm.mono hk) gd gl a kp b .nil pass0 ha hdb he hpl
theorem pc0 (c : Cal X.prog X.w X.K X.mg X.base j x sp) (rm : Room k X.A) (hk : j ≤ k) (gd : X.A.guards = some []) (gl : Gl X x)
    (hdb : (x == ("__debug__" : Str)) = false := by decide) : PE X (.Call (.Name x p) [] [] pos) (tCall sp [] E0 tNil) := by
  obtain ⟨f, fd, ps, a, kp, b, F⟩ := c
  exact pe_gcall0 F (rm.mono hk) gd gl a kp b .nil pass0 hdb
theorem pm (c : Met X.prog X.w X.K X.mg X.base j C m f sp) (cl : Cls X.K C) (rm : Room k X.A) (hk : j ≤ k) (gd : X.A.guards = some []) (he : PE X o ta) (ha : PA X (e :: es) t)
    (hst : starEach (e :: es) X.env = (false, eval e X.env) :: starEach es X.env := by rfl) (hpl : (backTo pos (starEach es X.env)).any (·.1) = false := by rfl)
    (ht : eval (.Call (.Attribute o m apos) (e :: es) [] pos) X.env = (do
      let w ← eval o X.env
      standAt apos.atName
      let (g, a) ← holding [w] (getMethod w m pl)
      callWith pos g a (backTo pos (starEach (e :: es) X.env)) (backToKw pos (keywordEach [] X.env))) := by rfl) :
    PE X (.Call (.Attribute o m apos) (e :: es) [] pos) (tMeth C m sp [] E0 ta t) := by
  obtain ⟨fd, ps, hm, b, F⟩ := c
  exact pe_gmeth he cl hm F (rm.mono hk) gd b .nil pass0 ha hst hpl ht
theorem pm0 (c : Met X.prog X.w X.K X.mg X.base j C m f sp) (cl : Cls X.K C) (rm : Room k X.A) (hk : j ≤ k) (gd : X.A.guards = some []) (he : PE X o ta)
    (ht : eval (.Call (.Attribute o m apos) [] [] pos) X.env = (do
      let w ← eval o X.env
      standAt apos.atName
      let (g, a) ← holding [w] (getMethod w m pl)
      callWith pos g a (backTo pos (starEach [] X.env)) (backToKw pos (keywordEach [] X.env))) := by rfl) :
    PE X (.Call (.Attribute o m apos) [] [] pos) (tMeth C m sp [] E0 ta tNil) := by
  obtain ⟨fd, ps, hm, b, F⟩ := c
  exact pe_gmeth0 he cl hm F (rm.mono hk) gd b .nil pass0 ht
theorem pmK (c : MetK X.prog X.w X.K X.mg X.base j C m f ks is sp) (cl : Cls X.K C) (rm : Room k X.A) (hk : j ≤ k) (gd : X.A.guards = some []) (he : PE X o ta) (hkw : PK X kws tk)
    (hall : (backToKw pos (keywordEach kws X.env)).all (·.1.isSome) = true := by rfl) (hks : (backToKw pos (keywordEach kws X.env)).filterMap (·.1) = ks := by rfl)
    (hpl : ((backTo pos (starEach [] X.env)).any (·.1) || (backToKw pos (keywordEach kws X.env)).any (·.1.isNone)) = false := by rfl)
    (ht : eval (.Call (.Attribute o m apos) [] kws pos) X.env = (do
      let w ← eval o X.env
      standAt apos.atName
      let (g, a) ← holding [w] (getMethod w m pl)
      callWith pos g a (backTo pos (starEach [] X.env)) (backToKw pos (keywordEach kws X.env))) := by rfl) :
    PE X (.Call (.Attribute o m apos) [] kws pos) (tMethK C m ks.length sp (fun vs zs => vs ++ sel is zs) E0 ta tk) := by
  obtain ⟨fd, ps, hm, b, F⟩ := c
  exact pe_gmethK he cl hm F (rm.mono hk) gd b pass0 hkw hall hks hpl ht
end

/-! ### ways that meet behind a statement -/
def tMid (t u : TS) : TS := fun D σ H => ∃ M : L2.St → Hp → Prop, t { D with nx := M } σ H ∧ ∀ σ' H', M σ' H' → u D σ' H'
theorem pss_mid {X : Cx} {st : Stmt} {rest : List Stmt} {t u : TS} (h1 : PS X st t) (h2 : PSs X rest u) : PSs X (st :: rest) (tMid t u) := by
  refine ⟨fun pins s σ H D I h => ?_⟩
  obtain ⟨M, a, b⟩ := h
  refine wpAny_execs_cons (thn (h1.run pins s σ H { D with nx := M } I a) fun f s1 q => ?_)
  match f, q with
  | .next, ⟨σ', H', J, q⟩ => exact h2.run pins s1 σ' H' D J (b σ' H' q)
  | .ret v, q => exact q
  | .brk, q => exact q
  | .cont, q => exact q

/-! ### steps -/
/-- what a field's read, a field's store asks -/
def Fld (K : PySem.W.Frag) (f : Str) (x : V) (H : Hp) (Q : VK) : Prop := ∃ a C dx fs v, x = .ref a ∧ H a = some (.ins C dx fs) ∧ Cls K C ∧ NoAttr K C f ∧ fs.lookup f = some v ∧ Q v H
theorem fld {K : PySem.W.Frag} {f : Str} {a C dx : Addr} {fs : List (Str × V)} {v : V} {H : Hp} {Q : VK} (h : H a = some (.ins C dx fs)) (c : Cls K C) (n : NoAttr K C f) (l : fs.lookup f = some v) (q : Q v H) : Fld K f (.ref a) H Q := ⟨a, C, dx, fs, v, rfl, h, c, n, l, q⟩
def SFld (K : PySem.W.Frag) (f : Str) (y x : V) (H : Hp) (QH : Hp → Prop) : Prop := ∃ a C dx fs, x = .ref a ∧ H a = some (.ins C dx fs) ∧ Cls K C ∧ NoAttr K C f ∧ fs.length < 1000 ∧ QH (upd H a (.ins C dx (putF f y fs)))
/-- .. the heap behind it a letter -/
theorem sfld {K : PySem.W.Frag} {f : Str} {a C dx : Addr} {fs gs : List (Str × V)} {y : V} {H : Hp} {QH : Hp → Prop} (h : H a = some (.ins C dx fs)) (c : Cls K C) (n : NoAttr K C f) (l : fs.length < 1000) (e : putF f y fs = gs)
    (q : ∀ H' : Hp, H' a = some (.ins C dx gs) → (∀ b, b ≠ a → H' b = H b) → QH H') : SFld K f y (.ref a) H QH := ⟨a, C, dx, fs, rfl, h, c, n, l, q _ (by rw [← e]; exact upd_same) fun b nb => upd_ne nb⟩
/-- what the making of an instance asks -/
def Make (C : Addr) (sp : Sp) (args : V → List V) (E : XK) (H : Hp) (Q : VK) : Prop := ∀ x dx, H x = none → H dx = none → dx ≠ x → sp (args (.ref x)) (upd (upd H dx (.own x)) x (.ins C dx [])) (fun v H3 => v = .non ∧ Q (.ref x) H3) E
theorem make {C : Addr} {sp : Sp} {args : V → List V} {E : XK} {H : Hp} {Q : VK} (q : ∀ (x dx : Addr) (H' : Hp), H x = none → H' x = some (.ins C dx []) → Same H H' → sp (args (.ref x)) H' (fun v H3 => v = .non ∧ Q (.ref x) H3) E) : Make C sp args E H Q :=
  fun x dx nx ndx _ => q x dx _ nx upd_same fun b o e => by
    rw [upd_ne (ne_of_none e nx), upd_ne (ne_of_none e ndx)]
    exact e
/-- a dict's display, store and read -/
def DAll (p : Addr) (ps : List (V × V)) (Q : VK) (H : Hp) : Prop := H p = some (.dK []) ∧ ∃ kvs : List (Key × V), ps = kvs.map (fun kv => (kV kv.1, kv.2)) ∧ kvs.length ≤ 15 ∧ Q (.ref p) (upd H p (.dK (mergeK [] kvs)))
theorem dall {p : Addr} {ps : List (V × V)} {Q : VK} {H : Hp} {ks : List (Key × V)} (kvs : List (Key × V)) (h : H p = some (.dK [])) (e : ps = kvs.map (fun kv => (kV kv.1, kv.2))) (l : kvs.length ≤ 15) (m : mergeK [] kvs = ks)
    (q : ∀ H' : Hp, H' p = some (.dK ks) → (∀ b, b ≠ p → H' b = H b) → Q (.ref p) H') : DAll p ps Q H := ⟨h, kvs, e, l, q _ (by rw [← m]; exact upd_same) fun b nb => upd_ne nb⟩
def DPutQ (v x y : V) (H : Hp) (QH : Hp → Prop) : Prop := ∃ a H4, x = .ref a ∧ DPut H a y v H4 ∧ QH H4
theorem dput {v : V} {p : Addr} {H : Hp} {QH : Hp → Prop} {kvs ks : List (Key × V)} (k : Key) (h : H p = some (.dK kvs)) (l : kvs.length < sizeLine) (m : putK kvs k v = ks)
    (q : ∀ H' : Hp, H' p = some (.dK ks) → (∀ b, b ≠ p → H' b = H b) → QH H') : DPutQ v (.ref p) (kV k) H QH := ⟨p, _, rfl, DPut.k h l, q _ (by rw [← m]; exact upd_same) fun b nb => upd_ne nb⟩
def DGetQ (x y : V) (H : Hp) (Q : VK) : Prop := ∃ a v, x = .ref a ∧ DGet H a y (some v) ∧ Q v H
theorem dget {v : V} {p : Addr} {H : Hp} {Q : VK} {kvs : List (Key × V)} (k : Key) (h : H p = some (.dK kvs)) (e : valV kvs k = some v) (q : Q v H) : DGetQ (.ref p) (kV k) H Q := ⟨p, v, rfl, by rw [← e]; exact DGet.k h, q⟩
/-- what a for asks -/
def Loop (J : It) (g : TG) (tb : TS) (D : Ends) (σ : L2.St) (H : Hp) : Prop := ∃ W : Nat → Nat → L2.St → Hp → Prop, (∃ m, W 0 m σ H) ∧ ∀ i m σ H, W i m σ H →
  (J.stop i H ∧ D.nx σ H) ∨ (J.go i H ∧ ∃ N : L2.St → Hp → Prop, (∀ σ' H', N σ' H' → ∃ m', m' < m ∧ W (i + 1) m' σ' H') ∧ ∀ x H', J.yld i H x H' → g x σ H' fun σ2 H2 => tb { D with nx := N, ct := N, bk := D.nx } σ2 H2)
def OverT (K : PySem.W.Frag) (x : V) (H : Hp) (R : It → Hp → Prop) : Prop := ∃ a, x = .ref a ∧ (∃ xs, SqT K H a xs) ∧ R (Itt K a) H
theorem over_t {K : PySem.W.Frag} {a : Addr} {xs : List V} {H : Hp} {R : It → Hp → Prop} (h : SqT K H a xs) (q : R (Itt K a) H) : OverT K (.ref a) H R := ⟨a, rfl, ⟨xs, h⟩, q⟩
def OverL (K : PySem.W.Frag) (x : V) (H : Hp) (R : It → Hp → Prop) : Prop := ∃ a, x = .ref a ∧ (∃ xs, SqL K H a xs) ∧ R (Itl K a) H
theorem over_l {K : PySem.W.Frag} {a : Addr} {xs : List V} {H : Hp} {R : It → Hp → Prop} (h : SqL K H a xs) (q : R (Itl K a) H) : OverL K (.ref a) H R := ⟨a, rfl, ⟨xs, h⟩, q⟩
def OverR (vs : List V) (H : Hp) (R : It → Hp → Prop) : Prop := ∃ j : Int, vs = [.int j] ∧ -(2 ^ 62) ≤ j ∧ j < 2 ^ 62 ∧ R (Itr 0 j.toNat) H
theorem over_r {j : Int} {H : Hp} {R : It → Hp → Prop} (h1 : -(2 ^ 62) ≤ j) (h2 : j < 2 ^ 62) (q : R (Itr 0 j.toNat) H) : OverR [.int j] H R := ⟨j, rfl, h1, h2, q⟩
/-- what a method's call asks of the object -/
def Mth (C : Addr) (m : Str) (x : V) (H : Hp) (B : Prop) : Prop := ∃ a dx fs, x = .ref a ∧ H a = some (.ins C dx fs) ∧ fs.lookup m = none ∧ B
theorem mth {C a dx : Addr} {m : Str} {fs : List (Str × V)} {H : Hp} {B : Prop} (h : H a = some (.ins C dx fs)) (l : fs.lookup m = none) (q : B) : Mth C m (.ref a) H B := ⟨a, dx, fs, rfl, h, l, q⟩
/-- a tuple of the written part -/
def KTup (K : PySem.W.Frag) (a : Addr) (xs : List V) : Prop := ∃ (o : Obj) (its : Array Value) (n : Nat), K.lookup a = some o ∧ o.cls = .type "tuple" ∧ o.data = .seq its n ∧ its.size ≤ sizeLine ∧ Vals xs its.toList
theorem KTup.t {K : PySem.W.Frag} {a : Addr} {xs : List V} (h : KTup K a xs) (H : Hp) : SqT K H a xs := .inr h
/-- what a display asks: a new object -/
def New (o : List V → HO) (Q : VK) (xs : List V) (H : Hp) : Prop := xs.length ≤ sizeLine ∧ ∀ p, H p = none → Q (.ref p) (upd H p (o xs))
/-- .. the heap behind it a letter -/
theorem new {o : List V → HO} {Q : VK} {xs : List V} {H : Hp} (h : xs.length ≤ sizeLine) (q : ∀ (p : Addr) (H' : Hp), H p = none → H' p = some (o xs) → Same H H' → Q (.ref p) H') : New o Q xs H :=
  ⟨h, fun p np => q p _ np upd_same fun b u e => by rw [upd_ne (ne_of_none e np)]; exact e⟩
section
variable {σ : L2.St} {H : Hp} {Q : VK} {v : V} {ta tb te : TE} {t u : TS} {D : Ends} {i j : Int} {tc : TT} {QB : Bool → Hp → Prop} {QA : List V → Hp → Prop} {tr : TA} {r : R2}
theorem w_var {n : Nat} (h : σ[n]? = some (some v)) (q : Q v H) : tVar n σ H Q := ⟨v, h, q⟩
theorem w_c (q : Q v H) : tC v σ H Q := q
theorem w_op (q : ta σ H fun x H1 => tb σ H1 fun y H2 => r x y H2 Q) : tOp r ta tb σ H Q := q
theorem w_un {r : V → Hp → VK → Prop} (q : ta σ H fun x H1 => r x H1 Q) : tUn r ta σ H Q := q
theorem w_add (q : Q (.int (i + j)) H) : rI0 (fun i j => .int (i + j)) (.int i) (.int j) H Q := ⟨i, j, rfl, rfl, q⟩
theorem w_sub (q : Q (.int (i - j)) H) : rI0 (fun i j => .int (i - j)) (.int i) (.int j) H Q := ⟨i, j, rfl, rfl, q⟩
theorem w_mul (c : CMul i j) (q : Q (.int (i * j)) H) : rI CMul (fun i j => .int (i * j)) (.int i) (.int j) H Q := ⟨i, j, rfl, rfl, c, q⟩
theorem w_mod (c : 0 < j) (q : Q (.int (i % j)) H) : rI (fun _ j => 0 < j) (fun i j => .int (i % j)) (.int i) (.int j) H Q := ⟨i, j, rfl, rfl, c, q⟩
theorem w_fdiv (c : CDiv i j) (q : Q (.int (i / j)) H) : rI CDiv (fun i j => .int (i / j)) (.int i) (.int j) H Q := ⟨i, j, rfl, rfl, c, q⟩
theorem w_pow (c : CPow i j) (q : Q (.int (i ^ j.toNat)) H) : rI CPow (fun i j => .int (i ^ j.toNat)) (.int i) (.int j) H Q := ⟨i, j, rfl, rfl, c, q⟩
theorem w_and (q : Q (.int (Builtin.bitAnd i j)) H) : rI0 (fun i j => .int (Builtin.bitAnd i j)) (.int i) (.int j) H Q := ⟨i, j, rfl, rfl, q⟩
theorem w_or (q : Q (.int (Builtin.bitOr i j)) H) : rI0 (fun i j => .int (Builtin.bitOr i j)) (.int i) (.int j) H Q := ⟨i, j, rfl, rfl, q⟩
theorem w_xor (q : Q (.int (Builtin.bitXor i j)) H) : rI0 (fun i j => .int (Builtin.bitXor i j)) (.int i) (.int j) H Q := ⟨i, j, rfl, rfl, q⟩
theorem w_gt (q : Q (.bl (decide (j < i))) H) : rI0 (fun i j => .bl (decide (j < i))) (.int i) (.int j) H Q := ⟨i, j, rfl, rfl, q⟩
theorem w_lt (q : Q (.bl (decide (i < j))) H) : rI0 (fun i j => .bl (decide (i < j))) (.int i) (.int j) H Q := ⟨i, j, rfl, rfl, q⟩
theorem w_ge (q : Q (.bl (decide (j ≤ i))) H) : rI0 (fun i j => .bl (decide (j ≤ i))) (.int i) (.int j) H Q := ⟨i, j, rfl, rfl, q⟩
theorem w_le (q : Q (.bl (decide (i ≤ j))) H) : rI0 (fun i j => .bl (decide (i ≤ j))) (.int i) (.int j) H Q := ⟨i, j, rfl, rfl, q⟩
theorem w_eq {x y : V} (s : scal x y = true) (q : Q (.bl (decide (x = y))) H) : rEq x y H Q := ⟨s, q⟩
theorem w_ne {x y : V} (s : scal x y = true) (q : Q (.bl (!decide (x = y))) H) : rNe x y H Q := ⟨s, q⟩
theorem w_test (q : te σ H fun x H' => ∃ k, x = .bl k ∧ QB k H') : tTest te σ H QB := q
theorem w_tB (q : te σ H fun x H' => ∃ k, x = .bl k ∧ QB k H') : tB te σ H QB := q
theorem w_bl {b : Bool} {B : Bool → Prop} (q : B b) : ∃ k, V.bl b = .bl k ∧ B k := ⟨b, rfl, q⟩
theorem w_seq (q : t { D with nx := u D } σ H) : tSeq t u D σ H := q
theorem w_ret (q : te σ H D.rt) : tRet te D σ H := q
theorem w_next (q : D.nx σ H) : tNext D σ H := q
theorem w_asg {g : TG} (q : te σ H fun x H1 => g x σ H1 D.nx) : tAsg te g D σ H := q
theorem w_gname {n : Nat} {QS : L2.St → Hp → Prop} (q : QS (σ.set n (some v)) H) : gName n v σ H QS := q
theorem w_ifs (q : tc σ H fun b H1 => if b = true then t D σ H1 else u D σ H1) : tIfS tc t u D σ H := q
theorem w_ifx (q : tc σ H fun c H1 => if c = true then ta σ H1 Q else tb σ H1 Q) : tIf tc ta tb σ H Q := q
theorem w_nil (q : QA [] H) : tNil σ H QA := q
theorem w_cons (q : ta σ H fun x H1 => tr σ H1 fun xs H2 => QA (x :: xs) H2) : tCons ta tr σ H QA := q
theorem w_tup (q : tr σ H fun xs H1 => New HO.tup Q xs H1) : tTup tr σ H Q := q
theorem w_lst (q : tr σ H fun xs H1 => New HO.lst Q xs H1) : tLst tr σ H Q := q
theorem w_and2 {tt uu : TT} (q : tt σ H fun c H1 => if c = true then uu σ H1 QB else QB false H1) : tAnd tt uu σ H QB := q
theorem w_or2 {tt uu : TT} (q : tt σ H fun c H1 => if c = true then QB true H1 else uu σ H1 QB) : tOr tt uu σ H QB := q
theorem w_not {tt : TT} (q : tt σ H fun c H1 => QB (!c) H1) : tNot tt σ H QB := q
theorem w_cb {r : List V → Hp → VK → Prop} (q : tr σ H fun vs H1 => r vs H1 Q) : tCB r tr σ H Q := q
theorem w_call {sp : Sp} {dvs : List V} {E : XK} (q : tr σ H fun vs H1 => sp (vs ++ dvs) H1 Q E) : tCall sp dvs E tr σ H Q := q
theorem w_ixL {K : PySem.W.Frag} {p : Addr} {xs : List V} (h : SqL K H p xs) (a : atI xs i = some v) (q : Q v H) : rIxL K (.ref p) (.int i) H Q := ⟨p, xs, i, v, rfl, rfl, h, a, q⟩
theorem w_ixT {K : PySem.W.Frag} {p : Addr} {xs : List V} (h : SqT K H p xs) (a : atI xs i = some v) (q : Q v H) : rIxT K (.ref p) (.int i) H Q := ⟨p, xs, i, v, rfl, rfl, h, a, q⟩
theorem w_gsub {to ti : TE} {ts : TSet} {QS : L2.St → Hp → Prop} (q : to σ H fun o H1 => ti σ H1 fun i H2 => ts o i v H2 fun H3 => QS σ H3) : gSub to ti ts v σ H QS := q
theorem w_setL {p : Addr} {xs : List V} {n : Nat} {QH : Hp → Prop} (h : H p = some (.lst xs)) (a : ixN xs.length i = some n) (q : QH (upd H p (.lst (xs.set n v)))) : rSetL (.ref p) (.int i) v H QH := ⟨p, xs, i, n, rfl, rfl, h, a, q⟩
/-- the store, the heap behind it a letter -/
theorem w_setG {p : Addr} {xs ys : List V} {n : Nat} {QH : Hp → Prop} (h : H p = some (.lst xs)) (a : ixN xs.length i = some n) (e : xs.set n v = ys)
    (q : ∀ H' : Hp, H' p = some (.lst ys) → (∀ b, b ≠ p → H' b = H b) → QH H') : rSetL (.ref p) (.int i) v H QH := ⟨p, xs, i, n, rfl, rfl, h, a, q _ (by rw [← e]; exact upd_same) fun b nb => upd_ne nb⟩
theorem w_fld {K : PySem.W.Frag} {f : Str} (q : ta σ H fun x H1 => Fld K f x H1 Q) : tFld K ta f σ H Q := q
theorem w_sfld {K : PySem.W.Frag} {tv : TE} {f : Str} (q : tv σ H fun y H1 => ta σ H1 fun x H2 => SFld K f y x H2 (fun H3 => D.nx σ H3)) : sFld K ta tv f D σ H := q
theorem w_par {m n : Nat} {ta : TA} (q : ta σ H fun vs H1 => ∃ v w, vs = [v, w] ∧ D.nx ((σ.set m (some v)).set n (some w)) H1) : tPar m n ta D σ H := q
theorem w_andV {ta tb : TE} (q : ta σ H fun x H1 => ∃ c, x = .bl c ∧ if c = true then tb σ H1 Q else Q (.bl false) H1) : tAndV ta tb σ H Q := q
theorem w_orV {ta tb : TE} (q : ta σ H fun x H1 => ∃ c, x = .bl c ∧ if c = true then Q (.bl true) H1 else tb σ H1 Q) : tOrV ta tb σ H Q := q
theorem w_mid (M : L2.St → Hp → Prop) (a : t { D with nx := M } σ H) (b : ∀ σ' H', M σ' H' → u D σ' H') : tMid t u D σ H := ⟨M, a, b⟩
theorem w_in {K : PySem.W.Frag} {neg : Bool} {x : V} {p : Addr} {xs : List V} (h : SqL K H p xs ∨ SqT K H p xs) (f : flatV x = true) (fs : xs.all flatV = true) (q : Q (.bl (if neg then !inV x xs else inV x xs)) H) : rIn K neg x (.ref p) H Q := ⟨p, xs, rfl, h, f, fs, q⟩
theorem w_kd {K : PySem.W.Frag} {w : World} {p : Addr} {z : Str} (h : KDct K w p z v) (q : Q v H) : rIxD K w (.ref p) (.str z) H Q := ⟨p, z, v, rfl, rfl, h, q⟩
theorem w_meth {C : Addr} {m : Str} {sp : Sp} {dvs : List V} {E : XK} {tr : TA} (q : ta σ H fun x H1 => Mth C m x H1 (tr σ H1 fun vs H2 => sp (x :: (vs ++ dvs)) H2 Q E)) : tMeth C m sp dvs E ta tr σ H Q := q
theorem w_methK {C : Addr} {m : Str} {n : Nat} {sp : Sp} {gV : List V → List V → List V} {E : XK} {tr : TA} (q : ta σ H fun x H1 => Mth C m x H1 (tr σ H1 fun zs H2 => zs.length = n ∧ sp (gV [x] zs) H2 Q E)) : tMethK C m n sp gV E ta tr σ H Q := q
theorem w_for {wi : TI} {g : TG} {tb : TS} (q : wi σ H fun J H1 => Loop J g tb D σ H1) : tFor wi g tb D σ H := q
theorem w_itup {K : PySem.W.Frag} {tl : TE} {R : It → Hp → Prop} (q : tl σ H fun x H1 => OverT K x H1 R) : iTup K tl σ H R := q
theorem w_ilist {K : PySem.W.Frag} {tl : TE} {R : It → Hp → Prop} (q : tl σ H fun x H1 => OverL K x H1 R) : iList K tl σ H R := q
theorem w_irng {ta : TA} {R : It → Hp → Prop} (q : ta σ H fun vs H1 => OverR vs H1 R) : iRng1 ta σ H R := q
theorem w_disp {trs : List (TE × TE)} (q : ∀ (p : Addr) (H1 : Hp), H p = none → H1 p = some (.dK []) → Same H H1 → tPairs trs σ H1 fun ps H2 => DAll p ps Q H2) : tDisp trs σ H Q :=
  fun p np => q p _ np upd_same fun b u e => by rw [upd_ne (ne_of_none e np)]; exact e
theorem w_pnil {QP : List (V × V) → Hp → Prop} (q : QP [] H) : tPairs [] σ H QP := q
theorem w_pcons {tk tv : TE} {r : List (TE × TE)} {QP : List (V × V) → Hp → Prop} (q : tk σ H fun x H1 => tv σ H1 fun y H2 => tPairs r σ H2 fun ps H3 => QP ((x, y) :: ps) H3) : tPairs ((tk, tv) :: r) σ H QP := q
theorem w_dput {td ty tv : TE} (q : tv σ H fun v H1 => td σ H1 fun x H2 => ty σ H2 fun y H3 => DPutQ v x y H3 (fun H4 => D.nx σ H4)) : sDPut td ty tv D σ H := q
theorem w_dget {td ty : TE} (q : td σ H fun x H1 => ty σ H1 fun y H2 => DGetQ x y H2 Q) : tDGet td ty σ H Q := q
theorem w_make {C : Addr} {sp : Sp} {dvs : List V} {E : XK} {tr : TA} (q : tr σ H fun vs H1 => Make C sp (fun x => x :: (vs ++ dvs)) E H1 Q) : tMake C sp dvs E tr σ H Q := q
theorem w_makeK {C : Addr} {n : Nat} {sp : Sp} {gV : List V → List V → List V} {E : XK} {tr : TA} (q : tr σ H fun zs H2 => zs.length = n ∧ Make C sp (fun x => gV [x] zs) E H2 Q) : tMakeKG C n sp gV E tr σ H Q := q
theorem w_drop (q : te σ H fun _ H1 => D.nx σ H1) : tDrop te D σ H := q
end
end KG

set_option Elab.async false
set_option linter.all false
set_option maxRecDepth 100000
set_option maxHeartbeats 4000000
/-! KX: an error that a suite keeps under another name, and what is asked of it later. -/
namespace KG
open PySem PySem.Spec PyProof.Rows L2

/-- a caught error of the class cls at a, its dict d -/
def ErrO (cls : Value) (d : Option Addr) (a : Addr) : HO := .ext fun h => ∃ (oe : Obj) (vs : Array Value), h.get? a = some oe ∧ Zc cls d oe ∧ oe.data = .fields vs
theorem errO_ok {P : Program} {w : World} {H : Hp} {h : Heap} {cls : Value} {d : Option Addr} {a : Addr} {oe : Obj} {vs : Array Value} (e : h.get? a = some oe) (z : Zc cls d oe) (dd : oe.data = .fields vs) : ObjOk P w H h a (ErrO cls d a) :=
  ⟨⟨oe, vs, e, z, dd⟩, ⟨oe, e⟩, fun _ _ ⟨o, v, q, r⟩ k => ⟨o, v, k o q, r⟩⟩
theorem errO_at {P : Program} {w : World} {H : Hp} {h : Heap} {cls : Value} {d : Option Addr} {a : Addr} (hok : HOk P w H h) (e : H a = some (ErrO cls d a)) : ∃ (oe : Obj) (vs : Array Value), h.get? a = some oe ∧ Zc cls d oe ∧ oe.data = .fields vs := by
  have x : ObjOk P w H h a (.ext fun h => ∃ (oe : Obj) (vs : Array Value), h.get? a = some oe ∧ Zc cls d oe ∧ oe.data = .fields vs) := hok a _ e
  exact x.1

section
variable {X : Cx} {pins : List (Addr × Obj)} {σ : L2.St} {H : Hp} {s : Shared}
/-- an object that was not there at the entry is known from now on -/
theorem inv_know {a : Addr} {oe : Obj} {vs : Array Value} {o : HO} (I : Inv X pins σ H s) (ha : s.heap.get? a = some oe) (hd : oe.data = .fields vs) (new : ObjOk X.prog X.w (upd H a o) s.heap a o) (na : H a = none) (nL : a ≠ X.env.locals)
    (n0 : X.s_0.heap.get? a = none) (np : ∀ p ∈ X.pn ++ pins, p.1 ≠ a) : Inv X pins σ (upd H a o) s := by
  have nT : ∀ {b u}, H b = some u → b ≠ a := fun e => ne_of_none e na
  have nC : ∀ x c, X.env.cells.lookup x = some c → c ≠ a := fun x c e z => by
    obtain ⟨v, oc, e1, e2⟩ := I.cell x c e
    rw [z, ha] at e1
    cases e1
    rw [hd] at e2
    cases e2
  refine ⟨I.ok, I.os, I.bare, ⟨I.base.keep, I.base.slot, fun b u e n hx => ?_, I.base.there, fun b xs e => ?_, fun b u v e => ?_, fun b ps e => ?_⟩, I.loc, I.cell, ?_, fun x c e => ?_, fun p hp => ?_, fun b u e => ?_, I.len⟩
  · rw [upd_ne (fun z => by rw [z, n0] at e; cases e)]
    exact I.base.free b u e n hx
  · have q := I.base.tups b xs e
    rw [upd_ne (nT q)]; exact q
  · have q := I.base.frzs b u v e
    rw [upd_ne (nT q)]; exact q
  · obtain ⟨m, q⟩ := I.base.tbls b ps e
    exact ⟨m, by rw [upd_ne (nT q)]; exact q⟩
  · rw [upd_ne (Ne.symm nL)]; exact I.free
  · rw [upd_ne (nC x c e)]; exact I.freeC x c e
  · obtain ⟨e, n, ne, nf, d⟩ := I.pin p hp
    exact ⟨e, by rw [upd_ne (np p hp)]; exact n, ne, nf, d⟩
  · by_cases hb : b = a
    · subst hb
      rw [upd_same] at e
      cases e
      exact new
    · rw [upd_ne hb] at e
      exact (I.hok b u e).stay (fun c v _ q => q) (fun c q => by rw [upd_ne (nT q)]; exact q) fun c xs q => by rw [upd_ne (nT q)]; exact q
end

/-- what the clause wishes, the error known behind its suite; slot i is the name's -/
def wKeep (K : PySem.W.Frag) (c : Value) (i : Nat) (ts : Addr → Value → Option Addr → TS) (Wout : WX) (D : Ends) : WX := fun cls d σ H => ∃ b, PySem.W.exmOne K cls c = some b ∧
  (b = true → ∀ a, H a = none → ts a cls d
    { nx := fun τ G => D.nx (τ.set i none) (upd G a (ErrO cls d a)), rt := fun v G => D.rt v (upd G a (ErrO cls d a)), bk := fun τ G => D.bk (τ.set i none) (upd G a (ErrO cls d a)), ct := fun τ G => D.ct (τ.set i none) (upd G a (ErrO cls d a)) } (σ.set i (some (.ref a))) H) ∧
  (b = false → Wout cls d σ H)

/-- an object of fields is no frame -/
theorem off_frames {B h : Heap} {l : List Env} {a : Addr} {o : Obj} {vs : Array Value} (ff : h.FunFrames B l) (e : h.get? a = some o) (d : o.data = .fields vs) : a ∉ frs l := by
  intro inside
  have ⟨_, p, ep, plain⟩ := ff.mem inside
  have same : o = p := Option.some.inj (e.symm.trans ep)
  exact plain vs (same ▸ d)
/-- where a caught error lies: beside the frames, the pins and all that was there at the entry -/
structure Beside (X : Cx) (pins : List (Addr × Obj)) (a : Addr) : Prop where
  own : a ≠ X.env.locals
  outer : a ∉ X.fs
  entry : X.s_0.heap.get? a = none
  pinned : ∀ p ∈ X.pn ++ pins, p.1 ≠ a
section
variable {X : Cx} {x n : Str} {c : Value} {i : Nat} {body suite : List Stmt} {b₀ : Stmt} {np pos pos' : Pos} {tb : WX → TS} {ts : Addr → Value → Option Addr → TS} {Wout : WX} {pins : List (Addr × Obj)} {σ : L2.St} {H : Hp} {s : Shared} {D : Ends}
theorem beside_of {B : Heap} {a : Addr} (stk : X.stack = X.env :: X.outer) (fr : X.env.frame = some X.env.locals) (noex : X.ex = []) (I : Inv X pins σ H s) (ground : ∀ b o, s.heap.get? b = some o → b ∉ frs X.stack → B.get? b = some o)
    (fresh : B.get? a = none) (off : a ∉ frs (X.env :: X.outer)) : Beside X pins a := by
  have gap : s.heap.get? a = none := by
    rcases e : s.heap.get? a with _ | o
    · rfl
    · have below := ground a o e (by rw [stk]; exact off)
      exact absurd (fresh.symm.trans below) (by simp)
  constructor
  · intro z
    refine off (List.mem_filterMap.mpr ⟨X.env, .head _, ?_⟩)
    rw [z, fr]
  · intro inside
    have ⟨env, henv, at_⟩ := List.mem_filterMap.mp inside
    exact off (List.mem_filterMap.mpr ⟨env, .tail _ henv, at_⟩)
  · rcases e : X.s_0.heap.get? a with _ | o
    · rfl
    · have ⟨_, still⟩ := I.base.there a o e (by rw [noex]; simp)
      exact absurd (gap.symm.trans still) (by simp)
  · intro p hp z
    have kept := (I.pin p hp).1
    rw [z] at kept
    exact absurd (gap.symm.trans kept) (by simp)
/-- the way out of the suite: the name goes, the error is known -/
theorem way_out {a : Addr} {oe : Obj} {vs : Array Value} {cls : Value} {d : Option Addr} {R : Shared → Prop} (ok : X.Ok) (nd : X.N.Nodup) (place : X.N[i]? = some n) (loc : X.env.kindOf n = some .local) (by_ : Beside X pins a) (z : Zc cls d oe) (dd : oe.data = .fields vs)
    (S : Inv (X.suite a ((a, oe) :: (X.pn ++ pins))) [] σ H s) (next : ∀ s', Inv X pins (σ.set i none) (upd H a (ErrO cls d a)) s' → R s') :
    wpAny (model X.prog X.w) X.A (do bindName X.env n .none; unbindBehindTheSuite X.env n pos') (fun _ s' => R s') X.xe s := by
  refine gone_ok (X := X.suite a ((a, oe) :: (X.pn ++ pins))) (pins := []) S nd place loc fun s' S' => next s' ?_
  have ⟨there, free, _⟩ := S'.pin (a, oe) (List.mem_append_left _ (.head _))
  exact inv_know (S'.unsuite ok) there dd (errO_ok there z dd) free by_.own by_.entry by_.pinned
/-- the clause's class by its name, within the suite's marks -/
theorem class_of_clause {a : Addr} {oe : Obj} {Q E : Value → Shared → Prop} (hc : Names X x c) (S : Inv (X.suite a ((a, oe) :: (X.pn ++ pins))) [] σ H s) (q : Q c s) : wpAny (model X.prog X.w) (X.A.mark (some (.ref a))) (eval (.Name x np) X.env) Q E s := by
  have ⟨glob, plain, from_⟩ := hc
  rcases from_ with own | ⟨no, boot, nn⟩
  · exact ld_glob (X := X.suite a ((a, oe) :: (X.pn ++ pins))) S glob own q plain
  · exact ld_blt (X := X.suite a ((a, oe) :: (X.pn ++ pins))) S glob no boot q nn plain
/-- an error that comes out of the body meets the clause -/
theorem clause_meets {xe₀ : Value → Shared → Prop} {u : Value} {s' : Shared} (stk : X.stack = X.env :: X.outer) (fr : X.env.frame = some X.env.locals) (noex : X.ex = []) (nd : X.N.Nodup) (place : X.N[i]? = some n) (loc : X.env.kindOf n = some .local) (hc : Names X x c) (tk : Takes X Wout)
    (inner : ∀ (a : Addr) (oe : Obj) (cls : Value) (d : Option Addr) (pn : List (Addr × Obj)), Zc cls d oe → (∃ vs, oe.data = .fields vs) → PSs (X.suite a ((a, oe) :: pn)) (b₀ :: suite) (ts a cls d)) (ok : X.Ok) (xx : XE (X.tr (X.pn ++ pins) xe₀) (wKeep X.K c i ts Wout D) u s') :
    wpAny (model X.prog X.w) X.A (noteFrame u X.env) (fun _ s₂ => wpAny (model X.prog X.w) X.A (setFlight u none) (fun _ s₃ => wpAny (model X.prog X.w) X.A (handleBy u X.env [.ExceptHandler (some (.Name x np)) (some n) (b₀ :: suite) pos']) (SP X pins D) X.xe s₃) X.xe s₂) X.xe s' := by
  have ⟨a, B, sI, _, τ, G, cls, d, eu, J', ground, grown, sky, free, os, bare, b, which, yes, no⟩ := xx
  subst eu
  have J : Inv X pins τ G sI := J'.ofTry ok
  have all_frames : X.A.frames = some (X.env :: X.outer) := stk ▸ ok.frames
  refine Sky.land (Zc.steady (cls := cls) (d := d)) all_frames fr (stk ▸ sky) fun h1 fl1 g1 => ?_
  have I1 : Inv X pins τ G { s' with heap := h1 } := J.landed ground fl1.1 (grown.trans g1) os bare
  have ⟨o1, v1, at1, z1, d1⟩ := fl1.there
  have by_ : Beside X pins a := beside_of stk fr noex J ground fl1.2.1 (off_frames fl1.2.2.1 at1 d1)
  have T1 := I1.suite at1 d1 free by_.own by_.outer
  have kind : PySem.W.Looks (model X.prog X.w) h1 (typeOf (.ref a)) cls := fun _ _ _ _ keeps q => wpAny_typeOf_ref (keeps _ _ at1) (z1.1.symm ▸ q)
  refine wpAny_handleBy_cons (codeAny_handlers_test (class_of_clause hc T1 ((PySem.W.exm_one (M := model X.prog X.w) I1.kIn kind which).here ?_))) (fun z => nomatch z)
  rcases b with _ | _
  · -- another clause's, or nobody's: it goes on
    refine wpAny_handleBy_nil ?_
    have goes : wpAny (model X.prog X.w) X.A (setFlight (.ref a) X.env.frame) (fun _ s₄ => wpAny (model X.prog X.w) X.A (throw (.ref a) : Sem Flow) (SP X pins D) X.xe s₄) X.xe { s' with heap := h1 } := by
      rw [fr]
      exact HandSPX.setFlight_upZ fl1 fun h2 held g2 => wpAny_throw (tk _ _ ⟨a, B, sI, pins, τ, G, cls, d, rfl, J, ground, (grown.trans g1).trans g2, .inr (.inr (by rw [stk]; exact held)), free, os, bare, no rfl⟩)
    have ⟨_, _, _, _, _, T, _, _, atE, _, dE, first, _⟩ := fl1
    unfold PySem.passOn
    refine wpAny_bind (wpAny_field atE dE first ?_)
    have some_ : ¬ ((Value.ref T == Value.none) = true) := by simp
    rw [if_neg some_]
    first
      | exact wpAny_bind (wpAny_pure (wpAny_bind goes))
      | exact wpAny_bind goes
  · -- this clause's: the suite
    refine codeAny_handlers_suite_as (HandSPX.lands_againZ fl1 fun h2 fl2 g2 => ?_)
    have ⟨o2, v2, at2, z2, d2⟩ := fl2.there
    have T2 := (J.landed ground fl2.1 ((grown.trans g1).trans g2) os bare : Inv X pins τ G { s' with heap := h2 }).suite at2 d2 free by_.own by_.outer
    refine store_ok (X := X.suite a ((a, o2) :: (X.pn ++ pins))) (v := .ref a) T2 nd place (.inl loc) rfl (fun s3 T3 => ?_) (.inr loc)
    refine wpAny_mono ((inner a o2 cls d (X.pn ++ pins) z2 ⟨_, d2⟩).run [] s3 _ G _ T3 (yes rfl a free)) (fun flow s4 ends => ?_) (fun _ _ z => False.elim z)
    match flow, ends with
    | .next, ⟨_, _, T4, q⟩ => exact way_out ok nd place loc by_ z2 d2 T4 fun _ I5 => ⟨_, _, I5, q⟩
    | .brk, ⟨_, _, T4, q⟩ => exact way_out ok nd place loc by_ z2 d2 T4 fun _ I5 => ⟨_, _, I5, q⟩
    | .cont, ⟨_, _, T4, q⟩ => exact way_out ok nd place loc by_ z2 d2 T4 fun _ I5 => ⟨_, _, I5, q⟩
    | .ret _, ⟨_, _, _, T4, r, q⟩ => exact way_out ok nd place loc by_ z2 d2 T4 fun _ I5 => ⟨_, _, _, I5, r, q⟩
/-- try: body / except x as n: suite; the error is known behind the suite -/
theorem ps_try_keep (hs : X.stack = X.env :: X.outer) (hf : X.env.frame = some X.env.locals) (hex : X.ex = []) (hN : X.N.Nodup) (hi : X.N[i]? = some n) (hln : X.env.kindOf n = some .local) (hc : Names X x c) (tk : Takes X Wout)
    (hb : ∀ (W : WX) (pn : List (Addr × Obj)) (xe : Value → Shared → Prop), Takes (X.tr pn xe) W → PassesOwn (model X.prog X.w) X.A X.env xe → PSs (X.tr pn xe) body (tb W))
    (hsu : ∀ (a : Addr) (oe : Obj) (cls : Value) (d : Option Addr) (pn : List (Addr × Obj)), Zc cls d oe → (∃ vs, oe.data = .fields vs) → PSs (X.suite a ((a, oe) :: pn)) (b₀ :: suite) (ts a cls d)) :
    PS X (.Try body [.ExceptHandler (some (.Name x np)) (some n) (b₀ :: suite) pos'] [] [] pos) (fun D σ H => tb (wKeep X.K c i ts Wout D) D σ H) := by
  constructor
  intro pins s σ H D I start_
  refine wpAny_Try_except ?_
  refine wpAny_mono ((hb _ (X.pn ++ pins) (fun u s₁ => wpAny (model X.prog X.w) X.A (noteFrame u X.env) (fun _ s₂ => wpAny (model X.prog X.w) X.A (setFlight u none) (fun _ s₃ => wpAny (model X.prog X.w) X.A (handleBy u X.env [.ExceptHandler (some (.Name x np)) (some n) (b₀ :: suite) pos']) (SP X pins D) X.xe s₃) X.xe s₂) X.xe s₁)
    (fun _ _ xx => clause_meets hs hf hex hN hi hln hc tk hsu I.ok xx) PassesOwn.looking).run [] s σ H D (I.toTry _) start_) (fun flow s1 ends => ?_) (fun _ _ z => z)
  match flow, ends with
  | .next, ⟨_, _, T, q⟩ => exact wpAny_execs_nil ⟨_, _, T.ofTry I.ok, q⟩
  | .brk, ⟨_, _, T, q⟩ => exact ⟨_, _, T.ofTry I.ok, q⟩
  | .cont, ⟨_, _, T, q⟩ => exact ⟨_, _, T.ofTry I.ok, q⟩
  | .ret _, ⟨_, _, _, T, r, q⟩ => exact ⟨_, _, _, T.ofTry I.ok, r, q⟩
end

/-! ### what is asked of a known error -/
/-- isinstance(e, c): D the error's class -/
def rIsErr (K : PySem.W.Frag) : List V → Hp → VK → Prop := fun xs H Q => ∃ (a D : Addr) (dd : Addr) (fs : List (Str × V)) (c : V) (cv : Value) (b : Bool), xs = [.ref a, c] ∧ H a = some (ErrO (.ref D) (some dd) a) ∧ H dd = some (.xd fs) ∧ ExcC K D ∧
  (∀ u, RelV c u → u = cv) ∧ PySem.W.kitOne K (.ref D) cv = some b ∧ Q (.bl b) H
theorem excC_cls {K : PySem.W.Frag} {D : Addr} (C : ExcC K D) : (PySem.W.clsIn K D).isSome = true := by
  obtain ⟨cd, hc, _⟩ := PySem.W.any_some C.hd
  rw [hc] <;> rfl
theorem call_isErr {X : Cx} : CallR X (.builtin "isinstance") (rIsErr X.K) := by
  intro pins s σ H xs us Q I r h
  obtain ⟨a, D, dd, fs, c, cv, b, rfl, ha, hdd, C, hcv, e, q⟩ := h
  cases r with
  | cons rx rr =>
    cases rr with
    | cons rt rr =>
      cases rr
      cases rx
      have ec := hcv _ rt
      subst ec
      obtain ⟨oe, vs, hget, hz, hv⟩ := errO_at I.hok ha
      obtain ⟨mA, ⟨od, _, _, ho, _⟩, _⟩ := I.hok dd _ hdd
      have J : PySem.W.InstAt s.heap a oe D (some od) := by
        obtain ⟨oc, oda, odt, osl⟩ := oe
        obtain ⟨h1, h2⟩ := hz
        dsimp only at h1 h2 hv
        subst h1 h2 hv
        exact ⟨hget, rfl, rfl, ho⟩
      exact PySem.W.kia_one (PySem.W.kitx_exc (excC_cls C) C.hg C.hk C.hs C.ha C.hn C.ht C.hm) I.kIn J e (fun z => nomatch z) fun tk => ⟨.bl b, H, I.kept (t' := tk) fun _ _ z => z, rfl, q⟩
/-- e.f of a known error -/
def tErrF (K : PySem.W.Frag) (te : TE) (f : Str) : TE := fun σ H Q => te σ H fun x H1 => ∃ (a C dd : Addr) (fs : List (Str × V)) (v : V), x = .ref a ∧ H1 a = some (ErrO (.ref C) (some dd) a) ∧ H1 dd = some (.xd fs) ∧ XfC K C ∧ PySem.W.findIn K (.ref C) f = some none ∧ fs.lookup f = some v ∧ Q v H1
theorem pe_errf {X : Cx} {e : Expr} {te : TE} {pos : Pos} {n : Str} (he : PE X e te) (hb : attributeBase e n X.env (eval e X.env) = eval e X.env := by rfl) : PE X (.Attribute e n pos) (tErrF X.K te n) := by
  refine ⟨fun pins s σ H Q I h => ?_⟩
  refine attr_of hb (thn (he.run pins s σ H _ I h) fun u s1 hh => ?_)
  obtain ⟨x, H1, I1, rx, a, C, dd, fs, v, ex, ha, hdd, T, hno, l, q⟩ := hh
  subst ex
  obtain rfl : u = Value.ref a := rx
  obtain ⟨oe, vs, hget, hz, hv⟩ := errO_at I1.hok ha
  obtain ⟨mA, hns, hr⟩ := I1.hok dd _ hdd
  obtain ⟨od, ho, hl⟩ := lookIn_ns hns
  obtain ⟨u, hu, ru⟩ := RelO.some_of (v := v) (o := mA n) (by rw [← l]; exact hr n)
  have J : PySem.W.InstAt s1.heap a oe C (some od) := ⟨hget, hz.1, by unfold PySem.W.notCls; rw [hv] <;> rfl, by rw [hz.2]; exact ho⟩
  exact HandSPX.exc_get I1.kIn J T.ga T.gg T.exC (PySem.W.findObj_own T.hdC hno rfl (by rw [hl, hu])) (handed_of ru) ⟨v, H1, I1.tok _, ru, q⟩
end KG

set_option Elab.async false
set_option linter.all false
set_option maxRecDepth 100000
set_option maxHeartbeats 4000000
/-! KE1: an own error, its __init__ of two lines: super().__init__('..'), self.f = value. -/
namespace KG
open PySem PySem.Spec PySem.Calls PyProof.Rows L2
open PySem.W (ksFn ksEnv)

/-- what the written part says of such a class at C, its __init__ at fI; pv: the value's name, fld: the field -/
structure ErrC (prog : Program) (K : PySem.W.Frag) (C fI : Addr) (qual pv fld : Str) (params : Arguments) (body : List Stmt) (scope : Scope) : Prop where
  cls : OexC K C
  ini : PySem.W.findIn K (.ref C) "__init__" = some (some (.ref fI))
  fn : PySem.W.typeIn K (.ref fI) = some (.type "function")
  fun_ : ∃ (oc kV doc pm ct : Value) (an od : Option Addr) (cda cc : Addr) (osl : Array (Option Value)) (ccl cl : Value) (cdd cld : Option Addr) (vs : Array Value) (ccs csl : Array (Option Value)) (file : Str) (tf : Tok),
    K.lookup fI = some ⟨oc, od, .func (ksFn "__init__" qual params body scope .none kV doc pm an (.ref cda) ct cc), osl⟩ ∧ PySem.W.codeIn K (.ref cda) qual = true ∧
    K.lookup cda = some ⟨ccl, cdd, .fields vs, ccs⟩ ∧ vs[2]? = some (.str file tf) ∧ ((prog.main.file : Str) == file) = true ∧ K.lookup cc = some ⟨cl, cld, .cell (some (.ref C)), csl⟩
  self_ : PySem.W.mroIn K C (.ref C) = some true
  up : PySem.W.ks_superIn K C C "__init__" = some (some (.builtin "ValueError.__init__"))
  sub : PySem.W.subIn K (.ref C) (.type "ValueError") = some true
  opq : PySem.W.nsIn K cStatics "thirdparty.any" = some none
  nosup : PySem.W.nsIn K mainGlobals "super" = some none
  top : (prog.main.scope.names.lookup ("super" : Str)).isSome = false
  nofld : PySem.W.findIn K (.ref C) fld = some none

/-- the two lines -/
def errBody (msg pv fld : Str) (j : Nat) (p0 p1 p2 p3 p4 p5 p6 p7 p8 p9 : Pos) : List Stmt :=
  [.Expr (.Call (.Attribute (.Call (.Name "super" p0) [] [] p1) "__init__" p2) [.Constant (.str msg) j p3] [] p4) p5,
   .Assign [.Attribute (.Name "self" p6) fld p7] (.Name pv p8) p9]

/-- what the text of the two lines says -/
structure ErrT (qual pv fld msg : Str) (params : Arguments) (scope : Scope) (j : Nat) (p0 p1 p2 p3 p4 p5 p6 p7 p8 p9 : Pos) : Prop where
  bind : ∀ (kV doc pm : Value) (an : Option Addr) (cdv ct : Value) (cc : Addr) (x y : Value), bindArgs (ksFn "__init__" qual params (errBody msg pv fld j p0 p1 p2 p3 p4 p5 p6 p7 p8 p9) scope .none kV doc pm an cdv ct cc) ⟨[x, y], []⟩ = pure [(("self" : Str), x), (pv, y)]
  ev : ∃ pl : Env → Sem Bool, ∀ env : Env, eval (.Call (.Attribute (.Call (.Name "super" p0) [] [] p1) "__init__" p2) [.Constant (.str msg) j p3] [] p4) env = (do
      let ov ← attributeBase (.Call (.Name "super" p0) [] [] p1) "__init__" env (eval (.Call (.Name "super" p0) [] [] p1) env)
      standAt p2.atName
      let (f, first) ← holding [ov] (getMethod ov "__init__" (pl env))
      callWith p4 f first (backTo p4 (starEach [.Constant (.str msg) j p3] env)) [])
  par : (params.posonlyargs ++ params.args).head?.map (·.arg) = some "self"
  k1 : scope.names.lookup ("self" : Str) = some .local
  k2 : scope.names.lookup pv = some .local
  k3 : scope.names.lookup ("super" : Str) = some .globalImplicit
  k4 : scope.names.lookup ("__class__" : Str) = some .free
  npv : pv ≠ "self"
  npd : (pv == ("__debug__" : Str)) = false
  cell : ∀ x ∈ scope.names, x.2 ≠ .cell
  co : scope.isCoroutine = false
  gen : scope.isGenerator = false
  kind : scope.kind = .function

section
variable {prog : Program} {w : World} {A : Around} {R : Result → Shared → Prop} {K : PySem.W.Frag} {mg mb : Str → Option Value} {C fI : Addr} {qual pv fld msg : Str} {params : Arguments} {scope : Scope} {j : Nat} {p0 p1 p2 p3 p4 p5 p6 p7 p8 p9 : Pos}
theorem err_init {s : Shared} {e t0 : Addr} {u : Value} (T : ErrC prog K C fI qual pv fld params (errBody msg pv fld j p0 p1 p2 p3 p4 p5 p6 p7 p8 p9) scope)
    (kin : K.In s.heap) (nsm : s.heap.Ns mainGlobals mg) (nsb : s.heap.Ns builtinsNs mb) (mbb : ∀ x : Str, x ≠ "__name__" → mb x = bootBuiltins x) (lim : s.heap.NoLimit) (dep : A.depth < recursionLimit)
    (he : s.heap.get? e = some (PySem.HandSPX.excO C t0)) (nK : K.lookup e = none)
    (bind : ∀ (kV doc pm : Value) (an : Option Addr) (cdv ct : Value) (cc : Addr) (x y : Value), bindArgs (ksFn "__init__" qual params (errBody msg pv fld j p0 p1 p2 p3 p4 p5 p6 p7 p8 p9) scope .none kV doc pm an cdv ct cc) ⟨[x, y], []⟩ = pure [(("self" : Str), x), (pv, y)])
    (pl : Env → Sem Bool) (hev : ∀ env : Env, eval (.Call (.Attribute (.Call (.Name "super" p0) [] [] p1) "__init__" p2) [.Constant (.str msg) j p3] [] p4) env = (do
      let ov ← attributeBase (.Call (.Name "super" p0) [] [] p1) "__init__" env (eval (.Call (.Name "super" p0) [] [] p1) env)
      standAt p2.atName
      let (f, first) ← holding [ov] (getMethod ov "__init__" (pl env))
      callWith p4 f first (backTo p4 (starEach [.Constant (.str msg) j p3] env)) []))
    (hpar : (params.posonlyargs ++ params.args).head?.map (·.arg) = some "self")
    (k1 : scope.names.lookup ("self" : Str) = some .local) (k2 : scope.names.lookup pv = some .local) (k3 : scope.names.lookup ("super" : Str) = some .globalImplicit) (k4 : scope.names.lookup ("__class__" : Str) = some .free)
    (npv : pv ≠ "self") (hpd : (pv == ("__debug__" : Str)) = false) (hcell : ∀ x ∈ scope.names, x.2 ≠ .cell) (hco : scope.isCoroutine = false) (hgen : scope.isGenerator = false) (hk : scope.kind = .function)
    (hq : ∀ h' t' dx, (∀ b o, b ≠ e → s.heap.get? b = some o → h'.get? b = some o) → s.heap.objs.size ≤ dx → dx ≠ e →
      (∃ t1 : Addr, h'.get? e = some ({ cls := .ref C, dict := some dx, data := .fields #[.ref t1, .none, .none, .none, .bool false, .none] } : Obj)) → h'.Ns1 dx (fun y => if y = fld then some u else none) →
      R (.ok (.ret .none)) { s with heap := h', toks := t' }) :
    codeAny (model prog w) A (.call (.ref fI) ⟨[.ref e, u], []⟩) R s := by
  obtain ⟨oc, kV, doc, pm, ct, an, od, cda, cc, osl, ccl, cl, cdd, cld, vs, ccs, csl, file, tf, lkF, code, lkC, hvs, hfile, lkCell⟩ := T.fun_
  obtain ⟨nm, q, N, bs, bm, sn, sub, ab, col, dd, c0, c1, c2, c3, c5, hC, hbm⟩ := T.cls.cls
  have hcl : PySem.W.clsIn K C = some { name := nm, bases := bs, mro := .ref C :: bm, ns := N, qualname := q, hasDict := true, slotNames := sn, subclasses := sub, abstract := ab, collection := col, hasDel := false } := by
    unfold PySem.W.clsIn
    rw [hC] <;> rfl
  obtain ⟨ar, har, hself⟩ : ∃ ar, (params.posonlyargs ++ params.args).head? = some ar ∧ ar.arg = "self" := by
    cases z : (params.posonlyargs ++ params.args).head? with
    | none => rw [z] at hpar; cases hpar
    | some ar => rw [z] at hpar; exact ⟨ar, rfl, Option.some.inj hpar⟩
  have eC : e ≠ C := fun z => by
    have z1 := kin _ _ hC
    rw [z, z1] at he
    cases he
  refine ks_codeAny_call_defAt (fd := ksFn "__init__" qual params (errBody msg pv fld j p0 p1 p2 p3 p4 p5 p6 p7 p8 p9) scope .none kV doc pm an (.ref cda) ct cc) (body := errBody msg pv fld j p0 p1 p2 p3 p4 p5 p6 p7 p8 p9) (binds := [(("self" : Str), .ref e), (pv, u)])
    dep (kin _ _ lkF) rfl lim (PySem.W.codeRec_of kin code) rfl (.of_eq (bind ..)) hcell (fun y hy => ?_) (fun h1 ns1 kp1 => ?_) hco hgen hk
  · rcases List.mem_cons.mp hy with z | z
    · rw [z]; exact k1
    · rcases List.mem_cons.mp z with z | z
      · rw [z]; exact k2
      · cases z
  have kin1 : K.In h1 := kin.keeps kp1
  obtain ⟨hp, g, d, t, os⟩ := s
  have hint : interactive (callEnv (ksFn "__init__" qual params (errBody msg pv fld j p0 p1 p2 p3 p4 p5 p6 p7 p8 p9) scope .none kV doc pm an (.ref cda) ct cc) hp.objs.size fI) = false := by
    unfold interactive
    simp [callEnv, newEnv, hk]
  refine ks_wpAt_execs_cons (ks_wpAt_Expr_any (ks_wpAt_MethodCall (ks_wpAt_super_base k3 k4 (by decide) rfl (kin1 _ _ lkF) rfl har rfl (kin1 _ _ lkC) rfl hvs hfile T.top ?_) (hev _)) hint)
  refine PySem.W.ks_loadName_global hk k3 (loadGlobal_builtin (nsm.keeps kp1) (PySem.W.mg_none_of kin nsm T.nosup) (nsb.keeps kp1) ((mbb _ (by decide +kernel)).trans (by decide +kernel)) ⟨rfl, ?_⟩)
  refine wpAny_loadName_free hk k4 rfl ⟨_, kin1 _ _ lkCell, rfl⟩ ?_
  rw [hself]
  refine wpAny_loadName_local hk k1 ns1 (v := .ref e) ?_ ?_
  · show List.lookup ("self" : Str) ([(("self" : Str), Value.ref e), (pv, u)] : List (Str × Value)).reverse = _
    simp [List.lookup, beq_eq_false_iff_ne.mpr (Ne.symm npv)]
  have he1 : h1.get? e = some (PySem.HandSPX.excO C t0) := kp1 _ _ he
  have hD1 := kin1 _ _ hC
  refine ks_wpAny_isType_cls hD1 rfl ⟨rfl, ?_⟩
  refine ks_wpAny_call_super hD1 rfl he1 rfl (fun c z => by cases z) (PySem.W.looks_mroIn kin1 T.self_) (fun h2 eso kp2 => ?_)
  have kin2 : K.In h2 := kin1.keeps kp2
  have he2 := kp2 _ _ he1
  have inst2 : PySem.W.InstAt h2 e (PySem.HandSPX.excO C t0) C none := ⟨he2, rfl, rfl, trivial⟩
  have sup := T.up
  unfold PySem.W.ks_superIn at sup
  rw [hcl] at sup
  refine PySem.W.kxs_getMethod PySem.W.kxs_ValueError eso (PySem.W.looks_opaque kin2 T.opq) (l₀ := Value.ref C :: bm) (fun A Q E s k q => wpAny_bind ((PySem.W.looks_clsIn kin2 hcl) A _ E s k (wpAny_pure q))) rfl kin2 sup (inst2.type.andThen (PySem.W.looks_subIn kin2 T.sub)) eC (by decide) ?_
  have ku := Heap.get?_push_size h2 (o := PySem.W.kxs_mw "ValueError.__init__" e) rfl
  have kp3 : ∀ b o, h2.get? b = some o → (h2.push (PySem.W.kxs_mw "ValueError.__init__" e)).get? b = some o := fun b o z => Heap.get?_push_of_some _ z
  refine PySem.W.kxs_callWith (i := "ValueError.__init__") (x := e) rfl (evalArgs_plain (Calls.spliced_cons (Calls.Constant_str (k := j) (pos := p3) (Calls.spliced_nil ⟨ku, ?_⟩))))
  have he3 := kp3 _ _ he2
  have hC3 := kp3 _ _ (kp2 _ _ hD1)
  refine wpAny_call (codeAny_of_tree ?_)
  show wpAny _ (Around.in1 _) (callAny (.ref h2.objs.size) ⟨[.str msg _], []⟩) _ _ _
  simp only [callAny]
  refine wpAny_bind (wpAny_load ku ?_)
  simp only [PySem.W.kxs_mw, show (Value.type "method-wrapper" == Value.type "method" || Value.type "method-wrapper" == Value.type "builtin_function_or_method" || Value.type "method-wrapper" == Value.type "method-wrapper") = true by decide, if_true]
  refine PySem.W.KFB.if_so (by decide) ?_
  refine wpAny_bind (PySem.W.check_bound_init PySem.F.excBase_ValueError.toExcCallFacts hC3 he3 rfl ?_)
  refine wpAny_bind (wpAny_pure (wpAny_pure ?_))
  refine ⟨plainId_quiet PySem.F.excBase_ValueError.init.plain _, codeAny_builtin PySem.F.excBase_ValueError.initEntry ?_⟩
  refine PySem.W.exc_init_tree (cls := .ref C) (t0 := t0) (dv := none) (c2 := .none) (c3 := .none) (b4 := .bool false) he3 (by show 1 ≤ sizeLine; rw [sizeLine_eq]; omega) fun h4 kp4 he4 _ => ?_
  have neF : hp.objs.size ≠ e := Nat.ne_of_gt (Heap.lt_size he)
  have kin4 : K.In h4 := fun b o z => kp4 b o (fun y => by
    rw [y, nK] at z
    cases z) (kp3 _ _ (kin2 b o z))
  have ns4 : h4.Ns hp.objs.size (fun y => ([(("self" : Str), Value.ref e), (pv, u)] : List (Str × Value)).reverse.lookup y) := by
    obtain ⟨o, es, ep, ho, r⟩ := ns1
    exact ⟨o, es, ep, kp4 _ _ neF (kp3 _ _ (kp2 _ _ ho)), r⟩
  refine ks_wpAt_execs_cons (ks_wpAt_Assign_Attr ?_)
  refine wpAt_of_wpAny (wpAny_Name ?_ hpd)
  refine wpAny_loadName_local hk k2 ns4 (v := u) ?_ ?_
  · show List.lookup pv ([(("self" : Str), Value.ref e), (pv, u)] : List (Str × Value)).reverse = _
    simp [List.lookup]
  refine wpAny_Name ?_ (by decide)
  refine wpAny_loadName_local hk k1 ns4 (v := .ref e) ?_ ?_
  · show List.lookup ("self" : Str) ([(("self" : Str), Value.ref e), (pv, u)] : List (Str × Value)).reverse = _
    simp [List.lookup, beq_eq_false_iff_ne.mpr (Ne.symm npv)]
  refine PySem.W.set_plain kin4 (ox := _) (od := none) ⟨he4, rfl, rfl, trivial⟩ T.cls.sa ?_
  refine PySem.HandSPX.exc_osa kin4 he4 hcl (show PySem.HandSPX.refsVE (.ref C :: bm) = true from hbm) rfl T.nofld (fun h5 tk5 dx kp5 dn dne hx hn => ?_)
  show _root_.PySem.wpAt _ _ _ (execs [] _) _ _ _
  refine wpAt_of_wpAny (wpAny_execs_nil (hq h5 tk5 dx (fun b o ne z => kp5 b o ne (kp4 b o ne (kp3 _ _ (kp2 _ _ (kp1 _ _ z))))) ?_ dne ⟨_, hx⟩ hn))
  obtain ⟨oL, _, _, hoL, _⟩ := ns4
  exact Nat.le_trans (Nat.le_of_lt (Heap.lt_size hoL)) dn
end

section
variable {X : Cx} {k : Nat} {C fI : Addr} {x qual pv fld msg : Str} {params : Arguments} {scope : Scope} {j : Nat} {p0 p1 p2 p3 p4 p5 p6 p7 p8 p9 p pos : Pos} {e : Expr} {es : List Expr} {ta : TA}
/-- the making of an own error: its reading -/
def tErr (C : Addr) (fld : Str) (ta : TA) : L2.St → Hp → XK → Prop := fun σ H Q => ta σ H fun vs H1 => ∃ v, vs = [v] ∧ ∀ (dx : Addr) (H2 : Hp), H1 dx = none → H2 dx = some (.xd [(fld, v)]) → (∀ b, b ≠ dx → H2 b = H1 b) → Q (.ref C) (some dx) H2
theorem pmk_err (T : ErrC X.prog X.K C fI qual pv fld params (errBody msg pv fld j p0 p1 p2 p3 p4 p5 p6 p7 p8 p9) scope) (TT : ErrT qual pv fld msg params scope j p0 p1 p2 p3 p4 p5 p6 p7 p8 p9)
    (hr : Room (k + 1) X.A) (hg : Gl X x) (hm : X.mg x = some (.ref C)) (ha : PA X (e :: es) ta)
    (hdb : (x == ("__debug__" : Str)) = false := by decide) (hs : starEach (e :: es) X.env = (false, eval e X.env) :: starEach es X.env := by rfl) (hpl : (backTo pos (starEach es X.env)).any (·.1) = false := by rfl) :
    PMk X (.Call (.Name x p) (e :: es) [] pos) (tErr C fld ta) := by
  intro pins s σ H Q I h
  obtain ⟨nm, q, N, bs, bm, sn, sub, ab, col, dd, c0, c1, c2, c3, c5, hC, hbm⟩ := T.cls.cls
  refine wpAny_Call_Name_kw (ld_glob I hg hm ?_ hdb)
  refine PySem.W.callWith_K (h₀ := X.base) I.ok.mod.kin T.cls.kC (thn (ha.run pos pins s σ H _ I h) fun us s1 ⟨vs, H1, I1, r1, q1⟩ => ⟨I1.kIn, ?_⟩) hs hpl
  obtain ⟨v, ev, q1⟩ := q1
  subst ev
  obtain ⟨u, eu, ru⟩ := vals1 r1
  subst eu
  show wpAny _ _ (call (.ref C) [u]) _ _ _
  have mod := I1.mod
  obtain ⟨mb, nsb0, mbb⟩ := mod.blt
  have nsm := mod.glob.keeps I1.bk
  have nsb := nsb0.keeps I1.bk
  have lim := I1.nolimit
  have kin := I1.kIn
  have bare := I1.bare
  have fresh : ∀ {b : Addr}, s1.heap.objs.size ≤ b → H1 b = none := fun hb => I1.hok.fresh hb
  obtain ⟨hp, g, dr, tk, os⟩ := s1
  have kk : ∀ b o, hp.get? b = some o → ((hp.push (PySem.W.kdv_tup [u])).push (PySem.HandSPX.excO C hp.objs.size)).get? b = some o := fun b o z => Heap.get?_push_of_some _ (Heap.get?_push_of_some _ z)
  have hget : ((hp.push (PySem.W.kdv_tup [u])).push (PySem.HandSPX.excO C hp.objs.size)).get? (hp.objs.size + 1) = some (PySem.HandSPX.excO C hp.objs.size) := by heap_get
  have nK : X.K.lookup (hp.objs.size + 1) = none := by
    cases z : X.K.lookup (hp.objs.size + 1) with
    | none => rfl
    | some o => exact absurd (Heap.lt_size (kin _ _ z)) (Nat.not_lt.mpr (Nat.le_succ _))
  refine wpAny_call (PySem.HandSPX.call_own F.excBase_ValueError (fun Y => PySem.HandSPX.refsVE_contains Y bm hbm) (kin _ _ hC) (PySem.W.looks_findIn kin T.ini) (fun self => PySem.W.bind_fn kin self T.fn) (by show 1 ≤ sizeLine; rw [sizeLine_eq]; omega)
    (err_init (mg := X.mg) (mb := mb) (t0 := hp.objs.size) (e := hp.objs.size + 1) (u := u) T (kin.keeps kk) (nsm.keeps kk) (nsb.keeps kk) mbb (lim.keeps kk) (hr.make C [u] []).depth hget nK TT.bind TT.ev.choose TT.ev.choose_spec TT.par TT.k1 TT.k2 TT.k3 TT.k4 TT.npv TT.npd TT.cell TT.co TT.gen TT.kind
      fun h' t' dx kp dn dne hx hn => ⟨rfl, ?_⟩))
  obtain ⟨t1, hx⟩ := hx
  have dn' : hp.objs.size ≤ dx := Nat.le_trans (by simp only [Heap.size_push]; omega) dn
  have ne_old : ∀ {b : Addr} {o : Obj}, hp.get? b = some o → b ≠ hp.objs.size + 1 := fun z => Nat.ne_of_lt (Nat.lt_succ_of_lt (Heap.lt_size z))
  obtain ⟨G, g1, g2⟩ := restrict h' fun b => decide (b ≠ hp.objs.size + 1)
  have gk : ∀ b, b ≠ hp.objs.size + 1 → G.get? b = h'.get? b := fun b hb => g1 b (decide_eq_true hb)
  have ge : G.get? (hp.objs.size + 1) = none := g2 _ (by simp)
  have J : Inv X pins σ (upd H1 dx (.xd [(fld, v)])) ⟨G, g, dr, t', os⟩ := I1.laid (h' := G) (a := dx) (o := .xd [(fld, v)]) (t' := t') (fun b o z => (gk b (ne_old z)).trans (kp b o (ne_old z) (kk b o z))) dn'
    ⟨_, hn.at fun o y => (gk dx dne).trans y, relO_put (fs := []) ru fun g => True.intro⟩
  have nd : H1 dx = none := fresh dn'
  have na : upd H1 dx (.xd [(fld, v)]) (hp.objs.size + 1) = none := by
    rw [upd_ne (Ne.symm dne)]
    exact fresh (Nat.le_succ _)
  refine ⟨hp.objs.size + 1, _, _, ⟨G, g, dr, t', os⟩, _, .ref C, some dx, rfl, J, fun b o z => ?_, ge, hx, ⟨rfl, rfl⟩, rfl, rfl, na, rfl, bare, raises_own T.cls.exC T.cls.tyC, q1 dx _ nd upd_same fun b nb => upd_ne nb⟩
  by_cases hb : b = hp.objs.size + 1
  · rw [hb, ge] at z
    cases z
  · exact (gk b hb).symm.trans z
end
end KG

set_option Elab.async false
set_option linter.all false
set_option maxRecDepth 100000
set_option maxHeartbeats 1000000
/-! KH: a lambda without parameters handed to a def of the text, where nothing is shown; the end of a law whose defs lay code objects. -/
namespace KG
open PySem PySem.Spec PySem.Calls PyProof.Rows L2 LamX

/-- the lambda: its names, no parameters -/
structure LamT (sc scope : Scope) (params : Arguments) (body : Expr) : Prop where
  names : LamS sc scope
  bind : ∀ (q : Str) (cl : List (Str × Addr)) (pm cv ctv : Value), bindArgs (PySem.W.kla_fn "<lambda>" q params body scope cl pm cv ctv) ⟨[], []⟩ = pure []

/-- the frame of the def g that got it, entered from X at s -/
abbrev inDef (X : Cx) (N : List Str) (x : Str) (st : Stmt) (g : Addr) (cd : Value) (s : Shared) (H : Hp) : Cx := cxOf C8.CX0 X.prog X.w X.K X.mg X.base N x (defScope st) g cd X.A X.stack s H C8.E0
section
variable {X : Cx} {pins : List (Addr × Obj)} {σ : L2.St} {H HZ : Hp} {s : Shared} {k i : Nat} {N : List Str} {x a : Str} {st : Stmt} {g f c' : Addr} {cd pm ctv : Value} {params : Arguments} {body : Expr} {scope : Scope} {W : WX} {E : XK} {tb : TE} {p1 p2 : Pos}
/-- the lambda runs: from a frame over X's, at s1 -/
theorem lam_run {s1 : Shared} {env : Env} {A : Around} {Q : VK} (I : Inv X pins σ H s) (L : LamT X.env.scope scope params body) (e0 : Env0 X.prog X.w X.K X.mg X.base A (env :: X.stack) s1 HZ) (un : Un (frs X.stack) [] H HZ s.heap s1.heap) (lim : s1.heap.NoLimit)
    (rm : Room (k + 1) A) (gd : A.guards = some []) (fo : s1.heap.get? f = some (PySem.W.kla_obj "<lambda>" (X.env.qual ++ "<lambda>") params body scope (cloFrom X.env.cells scope.names []) pm c' ctv)) (co : ∃ (oc : Obj) (vs : Array Value) (t : Tok), s1.heap.get? c' = some oc ∧ oc.data = .fields vs ∧ vs[1]? = some (.str (X.env.qual ++ "<lambda>") t))
    (hbody : Room k (A.deeper (lamEnv X scope s1.heap.objs.size f c')) → (A.deeper (lamEnv X scope s1.heap.objs.size f c')).guards = some [] → PE (lamCx X A (env :: X.stack) s1 HZ E scope f c') body tb) (q : tb σ HZ Q) :
    codeAny (model X.prog X.w) A (.call (.ref f) ⟨[], []⟩) (CR (L2.CX X.prog X.w) (env :: X.stack) X.prog X.w HZ s1 Q E) s1 := by
  obtain ⟨oc, vs, t, g1, g2, g3⟩ := co
  refine PySem.W.kla_callFunE rm.depth fo rfl L.names.co L.names.gen rfl ⟨c', oc, vs, t, rfl, g1, g2, g3⟩ ?_
  rw [L.bind]
  refine wpAny_pure (wpAny_newFunctionEnv (fun y hy => (L.names.own y hy).2) (fun y hy => absurd hy List.not_mem_nil) (fun h2 ns2 sb2 => ⟨lim.fresh _ sb2, PySem.W.kla_codeExpr ?_⟩) L.names.kind)
  have kp : ∀ b o, s1.heap.get? b = some o → h2.get? b = some o := fun b o z => sb2.extBut b o (Nat.ne_of_lt (Heap.lt_size z)) (Heap.get?_push_of_some _ z)
  have J := lam_start2 (tk := s1.toks + ([] : List (Str × Value)).length) (E := E) (c' := c') (f := f) I L.names e0 rm.hd un ns2 kp
  exact wpAny_mono ((hbody (rm.deeper _) gd).run [] _ _ HZ Q J q) (fun v s' ⟨y, H', J', r, z⟩ => ⟨y, H', J'.os, J'.bare, J'.base, J'.hok, r, z⟩) fun _ _ z => z
/-- what stands at the name a is the lambda at f: a() -/
def Act (X : Cx) (N : List Str) (x : Str) (st : Stmt) (g : Addr) (cd : Value) (s : Shared) (H : Hp) (a : Str) (f c' : Addr) (tl : XK → Hp → VK → Prop) : Prop :=
  ∀ (W : WX) (pn : List (Addr × Obj)) (xe : Value → Shared → Prop) (p1 p2 : Pos), Takes ((inDef X N x st g cd s H).tr pn xe) W →
    PE ((inDef X N x st g cd s H).tr pn xe) (.Call (.Name a p1) [] [] p2) (fun σZ HZ Q => σZ[0]? = some (some (.ref f)) ∧ HZ c' = some (CodeO c' (X.env.qual ++ "<lambda>")) ∧ ∃ E : XK, (∀ cls d H', E cls d H' → W cls d σZ H') ∧ tl E HZ Q)
theorem act_of {t : XK → TE} (I : Inv X pins σ H s) (L : LamT X.env.scope scope params body) (fo : s.heap.get? f = some (PySem.W.kla_obj "<lambda>" (X.env.qual ++ "<lambda>") params body scope (cloFrom X.env.cells scope.names []) pm c' ctv)) (fn : H f = none) (ff : f ∉ frs X.stack)
    (rm : Room (k + 2) X.A) (gd : X.A.guards = some [])
    (hbody : ∀ (A : Around) (outer : List Env) (s : Shared) (H : Hp) (E : XK), Room k (A.deeper (lamEnv X scope s.heap.objs.size f c')) → (A.deeper (lamEnv X scope s.heap.objs.size f c')).guards = some [] → PE (lamCx X A outer s H E scope f c') body (t E))
    (hN : N[0]? = some a) (hv : Vis (defScope st) a) (hd : (a == ("__debug__" : Str)) = false) (hcd : (a == ("__classdict__" : Str)) = false) : Act X N x st g cd s H a f c' (fun E HZ Q => t E σ HZ Q) := by
  intro W pn xe p1 p2 tk
  refine ⟨fun pinsZ sZ σZ HZ Q IZ ⟨at0, hco, E, hW, hq⟩ => ?_⟩
  refine wpAny_Call_Name_kw (thn ((pe_var (pos := p1) (i := 0) hN hv hd hcd).run pinsZ sZ σZ HZ (fun v H1 => v = .ref f ∧ H1 = HZ) IZ ⟨.ref f, at0, rfl, rfl⟩) fun u s1 ⟨v, H1, I1, r1, ev, eH⟩ => ?_)
  subst ev
  subst eH
  obtain rfl : u = Value.ref f := r1
  have fo1 := I1.base.keep f _ fo fn ff (fun z => nomatch (show f ∈ ([] : List Addr) from z))
  have co1 := (I1.hok c' _ hco).1
  have rc : codeAny (model X.prog X.w) (X.A.deeper (envOfC x (defScope st) s.heap.objs.size g cd)) (.call (.ref f) ⟨[], []⟩) (CR (L2.CX X.prog X.w) (envOfC x (defScope st) s.heap.objs.size g cd :: X.stack) X.prog X.w H1 s1 Q E) s1 :=
    lam_run (X := X) (k := k) (Q := Q) (E := E) (tb := t E) (params := params) (body := body) (scope := scope) (pm := pm) (ctv := ctv) (c' := c') (f := f) I L I1.env0 I1.base I1.nolimit (rm.deeper _) gd fo1 co1 (fun r2 g2 => hbody _ _ _ _ _ r2 g2) hq
  refine PySem.W.callWith_F0 ⟨_, _, _, _, fo1⟩ (wpAny_call (codeAny_mono rc fun out s' ho => ?_))
  cases out with
  | error e => exact tk e s' (XE.of_call I1 (fun cls d H' h => hW cls d H' h) ho)
  | ok fl =>
    cases fl with
    | ret u => exact I1.after ho
    | next => exact False.elim ho
    | brk => exact False.elim ho
    | cont => exact False.elim ho
/-- the def that gets it: what it makes of the lambda's reading -/
def Gives (X : Cx) (x : Str) (st : Stmt) (a : Str) (TT : (XK → Hp → VK → Prop) → Hp → VK → Prop) : Prop :=
  ∃ N : List Str, FnScope N [a] (defScope st) ∧ N[0]? = some a ∧ Vis (defScope st) a ∧ ∀ (g : Addr) (cd : Value) (f c' : Addr) (s : Shared) (H : Hp) (Q : VK) (tl : XK → Hp → VK → Prop), Act X N x st g cd s H a f c' tl → H c' = some (CodeO c' (X.env.qual ++ "<lambda>")) → TT tl H Q →
    ∃ t, PSs (inDef X N x st g cd s H).nox (defBody st) t ∧ t { nx := fun _ H' => Q .non H', rt := Q } (L2.start N [.ref f]) H
/-- x(lambda: body) -/
theorem pe_lam {T : List (Addr × Str)} {TT : (XK → Hp → VK → Prop) → Hp → VK → Prop} {t : XK → TE} {c P : Addr} {p lpos pos : Pos} (D : DefAt X.K X.mg x st [a]) (G : Gives X x st a TT) (hg : Gl X x) (TB : TabB X.base X.mg c P) (hcode : X.env.code = .ref c)
    (hmT : (P, X.env.qual ++ "<lambda>") ∈ T) (hu : ∀ p ∈ T, p.1 = P → p.2 = X.env.qual ++ "<lambda>") (rm : Room (k + 2) X.A) (gd : X.A.guards = some []) (L : LamT X.env.scope scope params body) (hdef : defaultsOf params X.env = ([], []))
    (hbody : ∀ (A : Around) (outer : List Env) (s : Shared) (H : Hp) (E : XK) (f c' : Addr), Room k (A.deeper (lamEnv X scope s.heap.objs.size f c')) → (A.deeper (lamEnv X scope s.heap.objs.size f c')).guards = some [] → PE (lamCx X A outer s H E scope f c') body (t E))
    (hdb : (x == ("__debug__" : Str)) = false := by decide) (hd : (a == ("__debug__" : Str)) = false := by decide) (hcd : (a == ("__classdict__" : Str)) = false := by decide) : PE X (.Call (.Name x p) [.Lambda params body scope lpos] [] pos) (tLam T TT t) := by
  obtain ⟨g, fd, hm, F, b⟩ := D.ex
  obtain ⟨oc, od, kV, doc, pm, an, cdv, ct, osl, rfl, lk, hcg⟩ := F.ex
  obtain ⟨N, sc, hN, hv, G⟩ := G
  refine ⟨fun pins s σ H Q I ⟨hT, h⟩ => wpAny_Call_Name_kw (ld_glob I hg hm (PySem.W.callWith_K (h₀ := X.base) I.ok.mod.kin F.kp ?_ (by rfl) (by rfl)) hdb)⟩
  show wpAny _ _ (spliced ((false, eval (.Lambda params body scope lpos) X.env) :: backTo pos (starEach [] X.env))) _ _ s
  refine spliced_cons (lam_make2 I TB hcode hmT hu hT hdef (L.names.has I.ok) fun f c' pm' ctv H1 s' I1 eN T1 fo fn ff hco => spliced_nil ⟨I1.kIn, ?_⟩)
  refine wpAny_call (codeAny_mono (run_ofS (k := k + 1) (N := N) (ps := [a]) (us := [.ref f]) (vs := [.ref f]) (E := C8.E0) (CX := C8.CX0) (Q := Q) (H := H1) (outer := X.stack) (args := ⟨[.ref f], []⟩) lk hcg sc rm I1.env0 (b s' [.ref f] I1.kIn rfl) (.cons rfl .nil) rfl fun rm2 => ?_) fun out s2 ho => ?_)
  · obtain ⟨tt, h1, h2⟩ := G g cdv f c' s' H1 Q (fun E HZ Q => t E σ HZ Q) (act_of (k := k) I1 L fo fn ff rm gd (fun A outer s H E r2 g2 => hbody A outer s H E f c' r2 g2) hN hv hd hcd) hco (h H1 eN T1)
    exact ⟨tt, h1.nox, h2⟩
  · cases out with
    | error e => exact (show False from ho).elim
    | ok fl =>
      cases fl with
      | ret u => exact I1.after ho
      | next => exact False.elim ho
      | brk => exact False.elim ho
      | cont => exact False.elim ho
end
end KG

set_option Elab.async false
set_option linter.all false
set_option maxRecDepth 100000
set_option maxHeartbeats 1000000
/-! KT: the end of a law over promises where nothing is shown, the tables of code objects of its defs known. -/
namespace KG
open PySem PySem.Spec PySem.Calls PyProof.Rows L2 LamX

/-- the abstract heap at the start: the tables, the script -/
def H0 (K : PySem.W.Frag) (T : List Addr) (a : Addr) (vs : List Value) (ns : List Int) : Hp := fun b =>
  if b ∈ T then some (.tbl #[]) else if b = a ∧ K.lookup a = none then some (.frz { cls := .type "list", data := .seq vs.toArray } (.lst (ns.map V.int))) else none
section
variable {K : PySem.W.Frag} {T : List Addr} {a : Addr} {vs : List Value} {ns : List Int}
theorem H0_tab {b : Addr} (h : b ∈ T) : H0 K T a vs ns b = some (.tbl #[]) := if_pos h
theorem H0_a (h : a ∉ T) (hk : K.lookup a = none) : H0 K T a vs ns a = some (.frz { cls := .type "list", data := .seq vs.toArray } (.lst (ns.map V.int))) := (if_neg h).trans (if_pos ⟨rfl, hk⟩)
theorem H0_some {b : Addr} {u : HO} (h : H0 K T a vs ns b = some u) : (b ∈ T ∧ u = .tbl #[]) ∨ (b ∉ T ∧ b = a ∧ K.lookup a = none ∧ u = .frz { cls := .type "list", data := .seq vs.toArray } (.lst (ns.map V.int))) := by
  by_cases h1 : b ∈ T
  · rw [H0_tab h1] at h
    exact .inl ⟨h1, (Option.some.inj h).symm⟩
  · by_cases h2 : b = a ∧ K.lookup a = none
    · have e := ((if_neg h1).trans (if_pos h2)).symm.trans h
      exact .inr ⟨h1, h2.1, h2.2, (Option.some.inj e).symm⟩
    · have e := ((if_neg h1).trans (if_neg h2)).symm.trans h
      cases e
end

theorem law_gdT {P : Program} {w : World} {K : PySem.W.Frag} {mg mb : Str → Option Value} {CX : CXT} {k : Nat} {fa a : Addr} {cs : List (Addr × Addr)} {fd : FuncData} {x : Str} {sp : Sp} {s1 : Shared} {vs : List Value} {ns : List Int}
    (kin : K.In s1.heap) (nsm : s1.heap.Ns mainGlobals mg) (nsb : s1.heap.Ns builtinsNs mb) (mbb : ∀ x : Str, x ≠ "__name__" → mb x = bootBuiltins x) (lim : s1.heap.NoLimit) (nog : s1.gens = #[])
    (tab : ∀ p ∈ cs, s1.heap.get? p.2 = some { cls := .none, data := .fields #[] }) (notK : ∀ p ∈ cs, K.lookup p.2 = none) (code : ∀ p ∈ cs, PySem.W.CodeHd s1.heap p.1 p.2)
    (bmain : ∃ (bm : Addr) (ob : Obj), mg "__builtins__" = some (.ref bm) ∧ bm ≠ builtinsNs ∧ s1.heap.get? bm = some ob ∧ ob.cls = .type "module" ∧ ob.dict = some builtinsNs ∧ ob.data = .plain)
    (atA : s1.heap.get? a = some { cls := .type "list", data := .seq vs.toArray }) (isn : IntsAre vs ns) (small : ns.length ≤ sizeLine) (rm : Room k callerA)
    (F : ∀ base : Heap, K.In base → base.Ns mainGlobals mg → (∀ p ∈ cs, TabB base mg p.1 p.2) → Gd P w K mg base CX k fa fd [x] sp) (bt : ∀ (s : Shared) (u : Value), BindsTo s fd ⟨[u], []⟩ [(x, u)])
    (start_ : ∀ H : Hp, (∀ p ∈ cs, H p.2 = some (.tbl #[])) → SqL K H a (ns.map V.int) → sp [.ref a] H (fun v _ => v = .bl true) fun _ _ _ => False)
    (quiet : ∀ H e s', CX [] H s1 (fun _ _ _ => False) e s' → False) :
    codeAny (model P w) callerA (.call (.ref fa) ⟨[.ref a], []⟩) (fun r s' => r = .ok (.ret (.bool true)) ∧ OldK s1.heap s'.heap ∧ s'.os = s1.os ∧ AllBare s'.gens) s1 := by
  have rv := vals_ints isn
  have inT : ∀ p ∈ cs, p.2 ∈ cs.map (·.2) := fun p hp => List.mem_map_of_mem hp
  have ofT : ∀ b ∈ cs.map (·.2), ∃ p ∈ cs, p.2 = b := fun b hb => List.mem_map.mp hb
  have emp : ∀ b ∈ cs.map (·.2), s1.heap.get? b = some { cls := .none, data := .fields #[] } := fun b hb => by
    obtain ⟨p, hp, e⟩ := ofT b hb
    exact e ▸ tab p hp
  have aT : a ∉ cs.map (·.2) := fun z => by
    have y := emp a z
    rw [atA] at y
    exact nomatch congrArg Obj.data (Option.some.inj y)
  -- what is no table and no list is not tracked
  have plain : ∀ {b : Addr} {o : Obj}, s1.heap.get? b = some o → o.data ≠ .fields #[] → (∀ its n, o.data ≠ .seq its n) → H0 K (cs.map (·.2)) a vs ns b = none := fun {b o} e n1 n2 => by
    cases z : H0 K (cs.map (·.2)) a vs ns b with
    | none => rfl
    | some u =>
      rcases H0_some z with ⟨y, _⟩ | ⟨_, y, _⟩
      · rw [emp b y] at e
        cases e
        exact (n1 rfl).elim
      · rw [y, atA] at e
        cases e
        exact (n2 _ _ rfl).elim
  have ofK : ∀ {b : Addr} {o : Obj}, K.lookup b = some o → H0 K (cs.map (·.2)) a vs ns b = none := fun {b o} e => by
    cases z : H0 K (cs.map (·.2)) a vs ns b with
    | none => rfl
    | some u =>
      rcases H0_some z with ⟨y, _⟩ | ⟨_, y, n, _⟩
      · obtain ⟨p, hp, ep⟩ := ofT b y
        rw [← ep, notK p hp] at e
        cases e
      · rw [y, n] at e
        cases e
  have hok : HOk P w (H0 K (cs.map (·.2)) a vs ns) s1.heap := fun b u z => by
    rcases H0_some z with ⟨y, rfl⟩ | ⟨_, rfl, _, rfl⟩
    · exact emp b y
    · exact ⟨atA, by rw [List.length_map]; exact small, vs, _, rv, atA⟩
  have sq : SqL K (H0 K (cs.map (·.2)) a vs ns) a (ns.map V.int) := by
    cases hk : K.lookup a with
    | some o =>
      have e := kin a o hk
      rw [atA] at e
      cases e
      exact .inr ⟨_, vs.toArray, _, hk, rfl, rfl, rfl, by rw [List.size_toArray, isn.length]; exact small, by simpa using rv⟩
    | none => exact .inl (.inr ⟨_, H0_a aT hk⟩)
  have keepN : ∀ {b : Addr} {m : Str → Option Value}, s1.heap.Ns b m → (hidT s1.heap (H0 K (cs.map (·.2)) a vs ns)).Ns b m := fun {b m} ⟨o, es, ep, e, d, r⟩ =>
    ⟨o, es, ep, hidT_get e (plain e (by rw [d]; exact nofun) (by rw [d]; exact nofun)), d, r⟩
  have kinH : K.In (hidT s1.heap (H0 K (cs.map (·.2)) a vs ns)) := fun b o e => hidT_get (kin b o e) (ofK e)
  have mod : Mod K mg (hidT s1.heap (H0 K (cs.map (·.2)) a vs ns)) := ⟨kinH, keepN nsm, ⟨mb, keepN nsb, mbb⟩, lim.elim fun mc h => ⟨mc, keepN h.1, h.2⟩⟩
  have tb : ∀ p ∈ cs, TabB (hidT s1.heap (H0 K (cs.map (·.2)) a vs ns)) mg p.1 p.2 := fun p hp => by
    obtain ⟨o, us, file, tf, flags, tg, inF, text, tt, e1, r1, r2, r3, rr⟩ := code p hp
    obtain ⟨bm, ob, b1, b2, b3, b4, b5, b6⟩ := bmain
    have other : ∀ {q : Addr}, q ≠ bm → True := fun _ => trivial
    refine ⟨⟨o, us, file, tf, flags, tg, inF, text, tt, hidT_get e1 (plain e1 (fun z => ?_) (by rw [r2]; exact nofun)), r1, r2, r3, rr⟩, ⟨bm, ob, b1, b2, fun z => ?_, fun z => ?_, hidT_get b3 (plain b3 (by rw [b6]; exact nofun) (by rw [b6]; exact nofun)), b4, b5, b6⟩, fun z => ?_⟩
    · rw [r2] at z
      cases z
      simp at r3
    · obtain ⟨oM, _, _, eM, dM, _⟩ := nsm
      rw [z, eM] at b3
      cases b3
      rw [b6] at dM
      cases dM
    · rw [z, tab p hp] at b3
      cases b3
      cases b6
    · obtain ⟨oM, _, _, eM, dM, _⟩ := nsm
      rw [z, tab p hp] at eM
      cases eM
      cases dM
  have e0 : Env0 P w K mg (hidT s1.heap (H0 K (cs.map (·.2)) a vs ns)) callerA [] s1 (H0 K (cs.map (·.2)) a vs ns) := ⟨rfl, mod, fun b o e => of_hidT e, Nat.le_of_eq (hidT_size _ _), trivial, fun b hb => absurd (show b ∈ ([] : List Addr) from hb) List.not_mem_nil, hok, .of_eq nog⟩
  refine codeAny_mono ((F _ kinH (keepN nsm) tb).go callerA [] s1 _ ⟨[.ref a], []⟩ [.ref a] [.ref a] _ _ rm rfl e0 (bt s1 (.ref a)) (.cons rfl .nil) (start_ _ (fun p hp => H0_tab (inT p hp)) sq)) fun r s' h => ?_
  match r, h with
  | .error e, h => exact (quiet _ e s' h).elim
  | .ok (.ret u), h =>
    obtain ⟨v, H', os, bare, un, hok', r', q⟩ := h
    have q' : v = .bl true := q
    subst q'
    obtain rfl : u = Value.bool true := r'
    have same : ∀ b o, b ∉ cs.map (·.2) → s1.heap.get? b = some o → s'.heap.get? b = some o := fun b o nb e => by
      cases z : H0 K (cs.map (·.2)) a vs ns b with
      | none => exact un.keep b o e z (by intro y; cases y) (by simp)
      | some t =>
        rcases H0_some z with ⟨y, _⟩ | ⟨_, _, _, rfl⟩
        · exact (nb y).elim
        · obtain ⟨g1, _⟩ := hok b _ z
          obtain ⟨g2, _⟩ := hok' b _ (un.frzs b _ _ z)
          rw [e] at g1
          cases g1
          exact g2
    have grown : ∀ p ∈ cs, ∃ more : Array Value, s'.heap.get? p.2 = some { cls := .none, data := .fields more } := fun p hp => by
      obtain ⟨more, z⟩ := un.tbls p.2 #[] (H0_tab (inT p hp))
      exact ⟨_, hok' p.2 _ z⟩
    refine ⟨rfl, ⟨fun b o e => ?_, fun b o e => ?_⟩, os, bare⟩
    · by_cases hb : b ∈ cs.map (·.2)
      · obtain ⟨p, hp, ep⟩ := ofT b hb
        obtain ⟨more, hm⟩ := grown p hp
        subst ep
        rw [tab p hp] at e
        cases e
        exact .inr (.inl ⟨((code p hp).tab (tab p hp)).isCodeTable, rfl, #[], more, rfl, by rw [Array.empty_append]; exact hm⟩)
      · exact .inl (same b o hb e)
    · by_cases hb : b ∈ cs.map (·.2)
      · obtain ⟨p, hp, ep⟩ := ofT b hb
        obtain ⟨more, hm⟩ := grown p hp
        exact ⟨_, ep ▸ hm⟩
      · exact ⟨o, same b o hb e⟩

/-- what the start tells of the tables of the top's defs -/
abbrev Tabs0 (q : Program) (mg : Str → Option Value) (h : Heap) : Prop :=
  ∀ d ∈ recsOf q, ∃ (a : Addr) (o : Obj) (fd : FuncData) (c P : Addr), mg d.name = some (.ref a) ∧ h.get? a = some o ∧ o.data = .func fd ∧ fd.code = .ref c ∧ h.IsCode c P #[] ∧ h.TableAt c P #[]
/-- .. of one def that the written part knows: its code object c, the table at P -/
theorem tab0 {q : Program} {K : PySem.W.Frag} {mg : Str → Option Value} {h : Heap} {x : Str} {f c P : Addr} {oc : Value} {od : Option Addr} {fd : FuncData} {sl : Array (Option Value)} (X : K.In h) (t : Tabs0 q mg h) (hr : ((recsOf q).any fun d => d.name == x) = true) (hm : mg x = some (.ref f))
    (lk : K.lookup f = some ⟨oc, od, .func fd, sl⟩) (hc : fd.code = .ref c) (hP : PySem.W.codeHdIn K c P = true) : h.get? P = some { cls := .none, data := .fields #[] } ∧ PySem.W.CodeHd h c P := by
  obtain ⟨d, hd, e⟩ := List.any_eq_true.mp hr
  obtain ⟨a', o', fd', c', P', h1, h2, h3, h4, h5, h6⟩ := t d hd
  rw [beq_iff_eq.mp e, hm] at h1
  cases h1
  rw [X _ _ lk] at h2
  cases h2
  cases h3
  rw [hc] at h4
  cases h4
  have hd1 := PySem.W.codeHd_of_K X hP
  obtain ⟨o, us, file, tf, flags, tg, inF, text, tt, e1, r1, r2, r3, rr⟩ := id hd1
  obtain ⟨⟨oc2, vc, g1, g2, g3, g4⟩, g5⟩ := h6
  rw [e1] at g1
  cases g1
  rw [r2] at g3
  cases g3
  rw [r3] at g4
  cases g4
  exact ⟨g5, hd1⟩
theorem walk_gdT {l : PySem.W.OpenLaw} {n k : Nat} {q : Program} {loose : List Str} {XP : (Str → Option Value) → Heap → Prop} {YP : World → Heap → Prop} {d : DefRec} {K : Params → PySem.W.Frag} {CX : CXT} {x : Str}
    (most : l.most = some n) (n2 : n ≤ sizeLine) (nod : d.params.defaults = []) (rm : Room k callerA)
    (hY : ∀ (w : World) (h : Heap), YP w h → (K w.params).In h)
    (F : ∀ (w : World) (mg : Str → Option Value) (fa : Addr) (h : Heap), YP w h → (K w.params).In h → h.Ns mainGlobals mg → mg d.name = some (.ref fa) → Tabs0 q mg h →
      ∃ (fd : FuncData) (cs : List (Addr × Addr)) (sp : Sp), (∀ p ∈ cs, h.get? p.2 = some { cls := .none, data := .fields #[] }) ∧ (∀ p ∈ cs, (K w.params).lookup p.2 = none) ∧ (∀ p ∈ cs, PySem.W.CodeHd h p.1 p.2) ∧ (∀ (s : Shared) (u : Value), BindsTo s fd ⟨[u], []⟩ [(x, u)]) ∧
        (∀ (H : Hp) (a : Addr) (ns : List Int), ns.length ≤ n → (∀ z ∈ ns, Builtin.Int.intBits z ≤ 1048576) → (∀ p ∈ cs, H p.2 = some (.tbl #[])) → SqL (K w.params) H a (ns.map V.int) → sp [.ref a] H (fun v _ => v = .bl true) fun _ _ _ => False) ∧
        ∀ base : Heap, (K w.params).In base → base.Ns mainGlobals mg → (∀ p ∈ cs, TabB base mg p.1 p.2) → Gd l.prog w (K w.params) mg base CX k fa fd [x] sp)
    (quiet : ∀ (H : Hp) (s : Shared) (e : Value) (s' : Shared), CX [] H s (fun _ _ _ => False) e s' → False) :
    PySem.W.WalkO q loose XP YP l.row.toRowW d [] (fun f vs => PySem.call f vs) := by
  refine Att.attach_callB most nod fun w s0 s1 mg mb fa o pm cd doc a vs ns G Y ho hd hcd hmg hobj hints hlen hbits hg => ?_
  have kin := hY w _ Y
  obtain ⟨fd, cs, sp, t1, t2, t3, hb, st, hF⟩ := F w mg fa _ Y kin G.T.g hmg G.T.tab
  exact law_gdT kin G.T.g G.T.b G.T.builtins G.T.nolimit hg t1 t2 t3 G.T.bmain hobj hints (Nat.le_trans hlen n2) rm hF hb (fun H h1 h2 => st H a ns hlen hbits h1 h2) fun H e s' => quiet H s1 e s'
end KG

set_option Elab.async false
set_option linter.all false
set_option maxRecDepth 100000
set_option maxHeartbeats 1000000
/-! KA: data of any kind, {} among them: repr, in a tuple of the written part. -/
namespace KG
open PySem PySem.Spec PySem.Calls PyProof.Rows L2

/-- x is the data d -/
def Da (H : Hp) (x : V) (d : PyData) : Prop := ∀ (X : Cx) (pins : List (Addr × Obj)) (σ : L2.St) (s : Shared) (u : Value), Inv X pins σ H s → RelV x u → ∃ as, Reads s.heap u d as
/-- .. none of its lists and dicts the table of modules -/
def Dn (H : Hp) (x : V) (d : PyData) : Prop := ∀ (X : Cx) (pins : List (Addr × Obj)) (σ : L2.St) (s : Shared) (u : Value), Inv X pins σ H s → RelV x u → ∃ as, Reads s.heap u d as ∧ sysModules ∉ as
inductive DaAll (H : Hp) : List V → List PyData → Prop
  | nil : DaAll H [] []
  | cons {x : V} {xs : List V} {d : PyData} {ds : List PyData} : Da H x d → DaAll H xs ds → DaAll H (x :: xs) (d :: ds)
section
variable {H : Hp} {x : V} {d : PyData}
theorem Dn.da (h : Dn H x d) : Da H x d := fun X pins σ s u I r => by
  obtain ⟨as, a, _⟩ := h X pins σ s u I r
  exact ⟨as, a⟩
theorem Dn.str (z : Str) : Dn H (.str z) (.str z) := fun X pins σ s u I r => by obtain ⟨t, rfl⟩ := r; exact ⟨[], .str z t, List.not_mem_nil⟩
theorem Da.non : Da H .non .none := fun X pins σ s u I r => by cases r; exact ⟨[], .none⟩
theorem Da.bl (b : Bool) : Da H (.bl b) (.bool b) := fun X pins σ s u I r => by cases r; exact ⟨[], .bool b⟩
theorem Da.int (i : Int) : Da H (.int i) (.int i) := fun X pins σ s u I r => by obtain ⟨t, rfl⟩ := r; exact ⟨[], .int i t⟩
theorem Da.str (z : Str) : Da H (.str z) (.str z) := (Dn.str z).da
theorem DaAll.reads : ∀ {xs : List V} {ds : List PyData} (_ : DaAll H xs ds) {X : Cx} {pins : List (Addr × Obj)} {σ : L2.St} {s : Shared} {us : List Value} (_ : Inv X pins σ H s) (_ : Vals xs us), ∃ as, ReadsAll s.heap us ds as
  | _, _, .nil, _, _, _, _, _, _, .nil => ⟨[], .nil⟩
  | _, _, .cons a t, X, pins, σ, s, _, I, .cons r rt => by
    obtain ⟨as, h1⟩ := a X pins σ s _ I r
    obtain ⟨bs, h3⟩ := t.reads I rt
    exact ⟨as ++ bs, .cons h1 h3⟩
theorem Da.lst {a : Addr} {xs : List V} {ds : List PyData} (h : H a = some (.lst xs)) (t : DaAll H xs ds) : Da H (.ref a) (.list ds) := fun X pins σ s u I r => by
  obtain rfl : u = Value.ref a := r
  obtain ⟨_, its, n, rv, ho⟩ := I.hok a _ h
  obtain ⟨as, h1⟩ := t.reads I rv
  exact ⟨a :: as, .list ho rfl rfl (by simpa using h1)⟩
theorem Da.tup {a : Addr} {xs : List V} {ds : List PyData} (h : H a = some (.tup xs)) (t : DaAll H xs ds) : Da H (.ref a) (.tuple ds) := fun X pins σ s u I r => by
  obtain rfl : u = Value.ref a := r
  obtain ⟨_, its, rv, ⟨o, ho, hc, n, hd⟩⟩ := I.hok a _ h
  obtain ⟨as, h1⟩ := t.reads I rv
  exact ⟨as, .tuple ho hc hd (by simpa using h1)⟩
/-- a list of two, beside the table of modules -/
theorem Dn.two {a : Addr} {z : Str} (h : H a = some (.lst [.str z, x])) (na : a ≠ sysModules) (t : Dn H x d) : Dn H (.ref a) (.list [.str z, d]) := fun X pins σ s u I r => by
  obtain rfl : u = Value.ref a := r
  obtain ⟨_, its, n, rv, ho⟩ := I.hok a _ h
  cases rv with
  | cons r1 rt =>
    obtain ⟨k, rfl⟩ := r1
    cases rt with
    | cons r2 rt =>
      cases rt
      obtain ⟨as, h1, h2⟩ := t X pins σ s _ I r2
      refine ⟨a :: ([] ++ (as ++ [])), .list ho rfl rfl (.cons (.str z k) (.cons h1 .nil)), fun hm => ?_⟩
      rcases List.mem_cons.mp hm with e | e
      · exact na e.symm
      · simp at e
        exact h2 e
theorem Dn.dict0 {a : Addr} (h : H a = some (.dK [])) : Dn H (.ref a) (.dict []) := fun X pins σ s u I r => by
  obtain rfl : u = Value.ref a := r
  obtain ⟨_, ns, vs, kv, ob, es, ep, ho, hx, hd, _, hp, _⟩ := I.hok a _ h
  cases kv
  have e : es.toList = [] := by
    cases z : es.toList with
    | nil => rfl
    | cons y ys =>
      rw [z] at hp
      cases hp
  refine ⟨[a], .dict (kvs := []) (as := []) (bs := []) ho hx.1 hd (by rw [e]; exact .nil) (by rw [e]; exact .nil), fun hb => ?_⟩
  rw [← List.mem_singleton.mp hb] at ns
  simp at ns
theorem Da.dict0 {a : Addr} (h : H a = some (.dK [])) : Da H (.ref a) (.dict []) := (Dn.dict0 h).da
end

section
variable {X : Cx}
/-- repr(x), x any data -/
def rReprA : List V → Hp → VK → Prop := fun xs H Q => ∃ x d, xs = [x] ∧ Da H x d ∧ (d.hasDict = true → Dn H x d) ∧ d.showable = true ∧ d.depth ≤ 40 ∧ d.shown.length ≤ sizeLine ∧ Q (.str d.shown) H
theorem call_reprA {k : Nat} (rm : Room k X.A) (gd : X.A.guards = some []) : CallR X (.builtin "repr") rReprA := by
  intro pins s σ H xs us Q I r h
  obtain ⟨x, d, rfl, hd, hn, sh, dp, sz, q⟩ := h
  obtain ⟨u, rfl, r1⟩ := vals1 r
  have rdn : ∃ as, Reads s.heap u d as ∧ (d.hasDict = true → sysModules ∉ as) := by
    cases z : d.hasDict with
    | false =>
      obtain ⟨as, rd⟩ := hd X pins σ s u I r1
      exact ⟨as, rd, nofun⟩
    | true =>
      obtain ⟨as, rd, n⟩ := hn z X pins σ s u I r1
      exact ⟨as, rd, fun _ => n⟩
  obtain ⟨as, rd, ha⟩ := rdn
  have room := rm.units
  have fin : ∀ (s' : Shared) (tk : Tok), Inv X pins σ H s' → EP X pins σ Q (.str d.shown tk) s' := fun s' tk J => ⟨.str d.shown, H, J, ⟨tk, rfl⟩, q⟩
  have intsz : ∀ i : Int, d = .int i → i.natAbs.log2 < 1920 := fun i e => by
    subst e
    simpa [PyData.showable] using sh
  have big : ∀ {a : Addr}, u = .ref a → wpAny (model X.prog X.w) X.A (call (.builtin "repr") [u]) (EP X pins σ Q) X.xe s := fun {a} e => by
    subst e
    exact repr_of_reads' rd sh ha gd (by omega) (fun _ _ z => z) (fun h' u tk keep => fin _ _ (I.kept (t' := tk) keep)) sz
  cases rd with
  | none =>
    rw [PyData.shown_none] at q
    exact PySem.P.repr_of_none ⟨.str _, H, I.tok _, ⟨_, rfl⟩, q⟩
  | bool b =>
    rw [PyData.shown_bool] at q
    exact PySem.P.repr_of_bool ⟨.str _, H, I.tok _, ⟨_, rfl⟩, by cases b <;> exact q⟩
  | int i t =>
    rw [PyData.shown_int] at q
    exact PySem.P.repr_of_int (intsz i rfl) ⟨.str _, H, I.tok _, ⟨_, rfl⟩, q⟩
  | str z t =>
    rw [PyData.shown_str] at q sz
    exact PySem.P.repr_of_str ⟨.str _, H, I.tok _, ⟨_, rfl⟩, q⟩ sz
  | list h1 h2 h3 h4 => exact big rfl
  | tuple h1 h2 h3 h4 => exact big rfl
  | dict h1 h2 h3 h4 h5 => exact big rfl
/-- x not in t, t a tuple of texts of the written part, x any data -/
def rNotInA (K : PySem.W.Frag) : R2 := fun x y H Q => ∃ (p : Addr) (d : PyData) (zs : List Str), y = .ref p ∧ Da H x d ∧ d.canLay0 = true ∧ d.depth ≤ 40 ∧ KTup K p (zs.map V.str) ∧ zs.all PyData.strOk = true ∧ Q (.bl (!(zs.any fun z => PyData.eqv (.str z) d))) H
theorem strs_reads {h : Heap} : ∀ {zs : List Str} {us : List Value}, Vals (zs.map V.str) us → ReadsAll h us (zs.map PyData.str) []
  | [], _, .nil => .nil
  | z :: zs, _, .cons r t => by
    obtain ⟨k, rfl⟩ := r
    exact .cons (as := []) (bs := []) (.str z k) (strs_reads t)
theorem strs_lay : ∀ {zs : List Str}, zs.all PyData.strOk = true → PyData.canLayAll0 (zs.map PyData.str) = true
  | [], _ => by simp [PyData.canLayAll0]
  | z :: zs, h => by
    rw [List.all_cons, Bool.and_eq_true] at h
    simp [PyData.canLayAll0, PyData.canLay0, strs_lay h.2, h.1]
theorem op_notInA {k : Nat} (rm : Room k X.A) : OpR X (compareOp .NotIn) (rNotInA X.K) := by
  intro pins s σ H x y v u Q I rx ry h
  obtain ⟨p, d, zs, rfl, hd, lay, dp, ⟨o, its, n, lk, hc, hdt, _, rv⟩, zok, q⟩ := h
  obtain rfl : u = Value.ref p := ry
  obtain ⟨as, rd⟩ := hd X pins σ s v I rx
  have room := rm.units
  refine SeqAt.notIn_tuple_reads (.tuple (I.kIn _ _ lk) hc hdt (strs_reads rv)) rd (strs_lay zok) lay (Nat.lt_of_le_of_lt (Nat.add_le_add_left (Nat.min_le_right _ _) _) (by omega)) ⟨.bl _, H, I, rfl, ?_⟩
  rw [List.any_map]
  exact q
end
end KG

set_option Elab.async false
set_option linter.all false
set_option maxRecDepth 100000
set_option maxHeartbeats 1000000
/-! KV: list.count of flat items; what a caught error of a known class answers. -/
namespace KG
open PySem PySem.Spec PySem.Calls PyProof.Rows L2
section
variable {X : Cx}
def rCountF (K : PySem.W.Frag) : V → List V → Hp → VK → Prop := fun x xs H Q => ∃ (p : Addr) (ys : List V) (y : V), x = .ref p ∧ xs = [y] ∧ SqL K H p ys ∧ flatV y = true ∧ ys.all flatV = true ∧ Q (.int (ys.countP fun z => eqV z y : Nat)) H
theorem count_eqU {x : V} : ∀ {xs : List V} {us : List Value}, Vals xs us → xs.all flatV = true → us.countP (eqU x) = xs.countP fun y => eqV y x
  | _, _, .nil, _ => rfl
  | y :: xs, u :: us, .cons r t, f => by
    rw [List.all_cons, Bool.and_eq_true] at f
    rw [List.countP_cons, List.countP_cons, eqU_of r f.1, count_eqU t f.2]
theorem mt_countF : MtR X "list.count" (rCountF X.K) := by
  intro pins s σ H x xs v us Q I rx rxs h
  obtain ⟨p, ys, y, rfl, rfl, hs, fy, fys, q⟩ := h
  cases rx
  obtain ⟨u, rfl, ru⟩ := vals1 rxs
  obtain ⟨its, rv, ⟨⟨cls, dd, data, sl⟩, n, ho, hc, hdn, hd⟩, hlen⟩ := I.list hs
  simp only at hc hd
  subst hc hd
  refine call_meets PySem.F.slot_list_count ⟨_, ho, rfl⟩ PySem.F.entry_list_count (PySem.F.args_list_count_2 _ _)
    (SeqAt.list_countAt p its.toArray n dd sl u (eqU y)) ⟨ho, fun u' hu' => mem_eqAt ru fy rv fys u' (by simpa using hu'), ?_⟩
  refine ⟨.int (ys.countP fun z => eqV z y : Nat), H, I.tok _, ⟨s.toks, ?_⟩, q⟩
  show Value.int ((its.toArray.toList.countP (eqU y) : Nat) : Int) s.toks = _
  rw [show its.toArray.toList = its from rfl, count_eqU rv fys]
end
/-- a list display, its place beside the table of modules -/
def NewB (Q : VK) (xs : List V) (H : Hp) : Prop := xs.length ≤ sizeLine ∧ ∀ p, H p = none → p ≠ sysModules → Q (.ref p) (upd H p (.lst xs))
def tLstB (t : TA) : TE := fun σ H Q => t σ H fun xs H1 => NewB Q xs H1
theorem pe_lstB {X : Cx} {es : List Expr} {t : TA} {pos : Pos} (h : PA X es t) : PE X (.List es pos) (tLstB t) := by
  refine ⟨fun pins s σ H Q I hq => wpAny_List_spliced (thn (h.run pos pins s σ H _ I hq) fun us s1 ⟨xs, H1, I1, r, z, q⟩ => ⟨by rw [← r.length]; exact z, ?_⟩)⟩
  exact ⟨.ref s1.heap.objs.size, _, I1.laid (t' := s1.toks) (o := .lst xs) (fun b u e => Heap.get?_push_of_some _ e) (Nat.le_refl _) ⟨z, us, 0, r, Heap.get?_push_size _ rfl⟩, rfl, q _ (I1.hok.fresh (Nat.le_refl _)) (Nat.ne_of_gt I1.big)⟩
theorem w_lstB {σ : L2.St} {H : Hp} {Q : VK} {t : TA} (q : t σ H fun xs H1 => NewB Q xs H1) : tLstB t σ H Q := q
theorem newB {xs : List V} {H : Hp} {Q : VK} (l : xs.length ≤ sizeLine) (q : ∀ (p : Addr) (H' : Hp), H p = none → p ≠ sysModules → H' p = some (.lst xs) → Same H H' → Q (.ref p) H') : NewB Q xs H :=
  ⟨l, fun p np ns => q p _ np ns upd_same fun b u e => by rw [upd_ne (ne_of_none e np)]; exact e⟩
/-! ### steps -/
section
variable {σ : L2.St} {H : Hp} {Q : VK} {K : PySem.W.Frag}
/-- isinstance of a known error, its class and dict in the heap H -/
theorem w_isE {a D dd : Addr} {fs : List (Str × V)} {c : V} {cv : Value} {b : Bool} (ha : H a = some (ErrO (.ref D) (some dd) a)) (hd : H dd = some (.xd fs)) (C : ExcC K D) (hc : ∀ u, RelV c u → u = cv) (e : PySem.W.kitOne K (.ref D) cv = some b) (q : Q (.bl b) H) : rIsErr K [.ref a, c] H Q :=
  ⟨a, D, dd, fs, c, cv, b, rfl, ha, hd, C, hc, e, q⟩
theorem w_cat {l b : Addr} {xs zs ys : List V} (h1 : H l = some (.lst xs)) (h2 : H b = some (.lst zs)) (e : xs ++ zs = ys) (z : ys.length ≤ sizeLine) (q : ∀ (p : Addr) (H' : Hp), H p = none → H' p = some (.lst ys) → Same H H' → Q (.ref p) H') : rCat (.ref l) (.ref b) H Q :=
  ⟨l, b, xs, zs, rfl, rfl, h1, h2, by rw [← List.length_append, e]; exact z, fun p np => q p _ np (by rw [e]; exact upd_same) fun b u e => by rw [upd_ne (ne_of_none e np)]; exact e⟩
theorem w_bm {T : String} {r : V → List V → Hp → VK → Prop} {to : TE} {t : TA} (q : to σ H fun x H1 => tyV K T x H1 ∧ t σ H1 fun xs H2 => r x xs H2 Q) : tBM K T r to t σ H Q := q
theorem ty_list {p : Addr} {xs : List V} (h : H p = some (.lst xs)) : tyV K "list" (.ref p) H := .inl ⟨rfl, xs, SqL.of h⟩
theorem w_app {p : Addr} {xs ys : List V} {y : V} (h : H p = some (.lst xs)) (z : xs.length < sizeLine) (e : xs ++ [y] = ys) (q : ∀ H' : Hp, H' p = some (.lst ys) → (∀ b, b ≠ p → H' b = H b) → Q .non H') : rAppend (.ref p) [y] H Q :=
  ⟨p, xs, y, rfl, rfl, h, z, q _ (by rw [e]; exact upd_same) fun b nb => upd_ne nb⟩
theorem w_count {p : Addr} {ys : List V} {y : V} {n : Nat} (h : H p = some (.lst ys)) (f : flatV y = true) (fs : ys.all flatV = true) (e : (ys.countP fun z => eqV z y) = n) (q : Q (.int (n : Nat)) H) : rCountF K (.ref p) [y] H Q :=
  ⟨p, ys, y, rfl, rfl, SqL.of h, f, fs, by rw [e]; exact q⟩
theorem w_errf {te : TE} {f : Str} (q : te σ H fun x H1 => ∃ (a C dd : Addr) (fs : List (Str × V)) (v : V), x = .ref a ∧ H1 a = some (ErrO (.ref C) (some dd) a) ∧ H1 dd = some (.xd fs) ∧ XfC K C ∧ PySem.W.findIn K (.ref C) f = some none ∧ fs.lookup f = some v ∧ Q v H1) : tErrF K te f σ H Q := q
end
end KG

set_option Elab.async false
set_option linter.all false
set_option maxRecDepth 100000
set_option maxHeartbeats 1000000
/-! KW: methods that may raise; own errors by their def. -/
namespace KG
open PySem PySem.Spec PySem.Calls PyProof.Rows L2
section
variable {P : Program} {w : World} {K : PySem.W.Frag} {mg : Str → Option Value} {base : Heap} {k : Nat} {x m qual : Str} {st : Stmt} {ps N : List Str} {sp : Sp} {C f : Addr}
theorem MetAt.gdx (D : MetAt K C m qual st ps f) (sc : FnScope N ps (defScope st)) (len : ∀ vs H Q E, sp vs H Q E → vs.length = ps.length)
    (inner : ∀ (cdv : Value) (A : Around) (outer : List Env) (s : Shared) (H : Hp) (vs : List V) (Q : VK) (E : XK),
      Room k (A.deeper (envOfC qual (defScope st) s.heap.objs.size f cdv)) → (A.deeper (envOfC qual (defScope st) s.heap.objs.size f cdv)).guards = some [] → sp vs H Q E →
      ∃ t, PSs (cxOf (L2.CX P w) P w K mg base N qual (defScope st) f cdv A outer s H E) (defBody st) t ∧ t { nx := fun _ H' => Q .non H', rt := Q } (start N vs) H) :
    ∃ fd, Meth K C m f ∧ Fun K m qual st f fd ∧ Binds K fd ps [] ∧ Gd P w K mg base (L2.CX P w) (k + 1) f fd ps sp := by
  obtain ⟨fd, a, F, b⟩ := D.ex
  exact ⟨fd, a, F, b, gdX F sc len inner⟩
end
/-- what a def that may raise lets out -/
theorem takes_cx {P : Program} {w : World} {K : PySem.W.Frag} {mg : Str → Option Value} {base : Heap} {N : List Str} {qual : Str} {sc : Scope} {f : Addr} {cd : Value} {A : Around} {outer : List Env} {s : Shared} {H : Hp} {E : XK} :
    Takes (cxOf (L2.CX P w) P w K mg base N qual sc f cd A outer s H E) (fun cls d _ H => E cls d H) := takes_of rfl rfl rfl rfl
theorem own_cx {P : Program} {w : World} {K : PySem.W.Frag} {mg : Str → Option Value} {base : Heap} {N : List Str} {qual : Str} {sc : Scope} {f : Addr} {cd : Value} {A : Around} {outer : List Env} {s : Shared} {H : Hp} {E : XK} :
    PassesOwn (model P w) (cxOf (L2.CX P w) P w K mg base N qual sc f cd A outer s H E).A (cxOf (L2.CX P w) P w K mg base N qual sc f cd A outer s H E).env (cxOf (L2.CX P w) P w K mg base N qual sc f cd A outer s H E).xe := passes_of rfl
/-- .. the lambda's frame -/
theorem takes_lam {X : Cx} {A : Around} {outer : List Env} {s : Shared} {H : Hp} {E : XK} {scope : Scope} {f c' : Addr} : Takes (LamX.lamCx X A outer s H E scope f c') (fun cls d _ H => E cls d H) := takes_of rfl rfl rfl rfl
theorem pass_lam {X : Cx} {A : Around} {outer : List Env} {s : Shared} {H : Hp} {E : XK} {scope : Scope} {f c' : Addr} : Passes (L2.CX X.prog X.w) (LamX.lamCx X A outer s H E scope f c') E := passes_call takes_lam fun _ _ _ _ h => h
theorem pass_cx {P : Program} {w : World} {K : PySem.W.Frag} {mg : Str → Option Value} {base : Heap} {N : List Str} {qual : Str} {sc : Scope} {f : Addr} {cd : Value} {A : Around} {outer : List Env} {s : Shared} {H : Hp} {E : XK} :
    Passes (L2.CX P w) (cxOf (L2.CX P w) P w K mg base N qual sc f cd A outer s H E) E := passes_call takes_cx fun _ _ _ _ h => h
/-- the def st is an error's __init__ of two lines -/
def ErrX (st : Stmt) (qual pv fld : Str) : Prop := ∃ (msg : Str) (j : Nat) (p0 p1 p2 p3 p4 p5 p6 p7 p8 p9 : Pos), defBody st = errBody msg pv fld j p0 p1 p2 p3 p4 p5 p6 p7 p8 p9 ∧ ErrT qual pv fld msg (defArgs st) (defScope st) j p0 p1 p2 p3 p4 p5 p6 p7 p8 p9
theorem pmk_errX {X : Cx} {k : Nat} {C fI : Addr} {x qual pv fld : Str} {st : Stmt} {p pos : Pos} {e : Expr} {es : List Expr} {ta : TA} (T : ErrC X.prog X.K C fI qual pv fld (defArgs st) (defBody st) (defScope st)) (TT : ErrX st qual pv fld)
    (hr : Room (k + 1) X.A) (hg : Gl X x) (hm : X.mg x = some (.ref C)) (ha : PA X (e :: es) ta)
    (hdb : (x == ("__debug__" : Str)) = false := by decide) (hs : starEach (e :: es) X.env = (false, eval e X.env) :: starEach es X.env := by rfl) (hpl : (backTo pos (starEach es X.env)).any (·.1) = false := by rfl) :
    PMk X (.Call (.Name x p) (e :: es) [] pos) (tErr C fld ta) := by
  obtain ⟨msg, j, p0, p1, p2, p3, p4, p5, p6, p7, p8, p9, hb, TT⟩ := TT
  rw [hb] at T
  exact pmk_err T TT hr hg hm ha hdb hs hpl
end KG

set_option Elab.async false
set_option linter.all false
set_option maxRecDepth 100000
set_option maxHeartbeats 1000000
/-! KZ: a text beside a dict; not in a tuple of texts. -/
namespace KG
open PySem PySem.Spec PySem.Calls PyProof.Rows L2 SeqAt
theorem sub_str_dict : isSubtype (.type "str") (.type "dict") = pure false := by rw [isSubtype_type]; kernel_rfl
theorem sub_dict_str : isSubtype (.type "dict") (.type "str") = pure false := by rw [isSubtype_type]; kernel_rfl
theorem dict_declines (l : Addr) (es : Array DictEntry) (n : Nat) (dd : Option Addr) (sl : Array (Option Value)) (b : Str) (u : Tok) :
    Meets (Builtin.«dict.__eq__» ⟨[.ref l, .str b u], []⟩) (fun _ R s => s.heap.get? l = some { cls := .type "dict", dict := dd, data := .dict es n, slots := sl } ∧ R (.ok (.ret .notImplemented)) s) :=
  .of_wp fun prog w A R s h => by
    obtain ⟨hp, g, d, tk, os⟩ := s
    obtain ⟨hl, h⟩ := h
    have f1 := sub_str_dict
    wp_walk using wpAny_loadPart' hl
    exact ⟨_, rfl, h⟩
theorem str_declines (b : Str) (u : Tok) (l : Addr) (es : Array DictEntry) (n : Nat) (dd : Option Addr) (sl : Array (Option Value)) :
    Meets (Builtin.«str.__eq__» ⟨[.str b u, .ref l], []⟩) (fun _ R s => s.heap.get? l = some { cls := .type "dict", dict := dd, data := .dict es n, slots := sl } ∧ R (.ok (.ret .notImplemented)) s) :=
  .of_wp fun prog w A R s h => by
    obtain ⟨hp, g, d, tk, os⟩ := s
    obtain ⟨hl, h⟩ := h
    have f1 := sub_dict_str
    wp_walk using wpAny_loadPart' hl
    exact ⟨_, rfl, h⟩
theorem eqAt_str_dict {A : Around} {s : Shared} {l : Addr} {es : Array DictEntry} {n : Nat} {dd : Option Addr} {sl : Array (Option Value)} (b : Str) (u : Tok) (ho : s.heap.get? l = some { cls := .type "dict", dict := dd, data := .dict es n, slots := sl }) (hu : A.units < cLine) : EqAt A s (.str b u) (.ref l) false := fun prog w E Q h => by
  unfold eqBool
  refine wpAny_holding ?_
  refine wpAny_ite_split (fun hab => absurd (eq_of_beq hab) nofun) (fun _ => ?_)
  refine wpAny_bind (rc_eq_decline_or (k := false) (typeIs_str s b u) ⟨_, ho, rfl⟩ (by decide) sub_dict_str F.slot_str_eq F.slot_dict_eq_refl
    (fun _ hq => call_meets F.slot_str_eq (typeIs_str s b u) F.entry_str_eq (F.args_str_eq_2 _ _) (str_declines b u l es n dd sl) ⟨ho, hq⟩)
    (fun _ hq => call_meets F.slot_dict_eq_refl ⟨_, ho, rfl⟩ F.entry_dict_eq (F.args_dict_eq_2 _ _) (dict_declines l es n dd sl b u) ⟨ho, hq⟩)
    (fun _ hq => wpAny_of_eq (rfl : isSame (.str b u) (.ref l) = pure false) hq) (.inr hu) (wpAny_truthy_bool h))
section
variable {X : Cx}
/-- x not in t, t a tuple of texts of the written part, x any data, {} too -/
def rNotInB (K : PySem.W.Frag) : R2 := fun x y H Q => ∃ (p : Addr) (d : PyData) (zs : List Str), y = .ref p ∧ Da H x d ∧ (d.canLay0 = true ∨ d = .dict []) ∧ d.depth ≤ 40 ∧ KTup K p (zs.map V.str) ∧ zs.all PyData.strOk = true ∧ Q (.bl (!(zs.any fun z => PyData.eqv (.str z) d))) H
theorem strs_mem : ∀ {zs : List Str} {us : List Value}, Vals (zs.map V.str) us → ∀ u ∈ us, ∃ z t, u = Value.str z t
  | [], _, .nil => fun u h => nomatch h
  | z :: zs, _, .cons r t => fun u h => by
    rcases List.mem_cons.mp h with e | e
    · obtain ⟨k, rfl⟩ := r
      exact ⟨z, k, e⟩
    · exact strs_mem t u e
theorem op_notInB {k : Nat} (rm : Room k X.A) : OpR X (compareOp .NotIn) (rNotInB X.K) := by
  intro pins s σ H x y v u Q I rx ry h
  obtain ⟨p, d, zs, rfl, hd, lay, dp, kt, zok, q⟩ := h
  rcases lay with lay | rfl
  · exact op_notInA rm pins s σ H x _ v u Q I rx ry ⟨p, d, zs, rfl, hd, lay, dp, kt, zok, q⟩
  · obtain ⟨o, its, n, lk, hc, hdt, _, rv⟩ := kt
    obtain rfl : u = Value.ref p := ry
    obtain ⟨as, rd⟩ := hd X pins σ s v I rx
    have room := rm.units
    cases rd with
    | @dict a oo es nn kvs as bs h1 h2 h3 h4 h5 =>
      obtain ⟨oc, od, odt, osl⟩ := oo
      dsimp only at h2 h3
      subst h2 h3
      refine SeqAt.notIn_tupleAt (fun _ => false) ⟨_, I.kIn _ _ lk, hc, _, hdt⟩ (fun y hy => ?_) ⟨.bl _, H, I, rfl, ?_⟩
      · obtain ⟨z, t, rfl⟩ := strs_mem rv y (by simpa using hy)
        exact eqAt_str_dict z t h1 (by show X.A.units + 1 < cLine; omega)
      · have e1 : (its.any fun _ => false) = false := by
          rw [← Array.any_toList]
          exact List.any_eq_false.mpr fun _ _ => Bool.false_ne_true
        have e2 : (zs.any fun z => PyData.eqv (.str z) (.dict [])) = false := List.any_eq_false.mpr fun z _ => by simp [PyData.eqv]
        rw [e2] at q
        rw [e1]
        exact q
end
end KG

set_option Elab.async false
set_option linter.all false
set_option maxRecDepth 100000
set_option maxHeartbeats 1000000
/-! KO: operators of own objects beside whole numbers, calls of own objects, calls by keywords alone, defaults of methods, written dicts with whole numbers as keys. -/
namespace KG
open PySem PySem.Spec PySem.Calls PyProof.Rows L2
section
variable {X : Cx} {CX : CXT} {k : Nat} {f C : Addr} {fd : FuncData} {ps ks : List Str} {sp : Sp} {E : XK} {x : Str} {p pos : Pos} {e : Expr} {es : List Expr} {kws : List Keyword} {ta t tk : TA}
/-- o op i, o an own object, i a whole number -/
def rOwnI (C : Addr) (sp : Sp) (E : XK) : R2 := fun x y H Q => ∃ (a dx : Addr) (fs : List (Str × V)) (i : Int), x = .ref a ∧ H a = some (.ins C dx fs) ∧ y = .int i ∧ sp [.ref a, .int i] H Q E
/-- what the class has for an operator -/
structure OpAt (K : PySem.W.Frag) (C f : Addr) (op : Operator) : Prop where
  first : PySem.W.selfFirst K C = true
  own : PySem.W.findIn K (.ref C) (PySem.dunder op.info.2) = some (some (.ref f))
  fn : PySem.W.isFn K (.ref f) = true
  refl : ∃ rc, PySem.W.findIn K (.ref C) (dunderR op.info.2) = some rc ∧ (rc = none ∨ ∃ g : Addr, rc = some (.ref g))
  int1 : ∃ fo, PySem.W.findIn K (.type "int") (PySem.dunder op.info.2) = some fo
  int2 : ∃ ro, PySem.W.findIn K (.type "int") (dunderR op.info.2) = some ro
  sub : PySem.W.subIn K (.type "int") (.ref C) = some false
theorem op_ownI {op : Operator} (O : OpAt X.K C f op) (F : Gd X.prog X.w X.K X.mg X.base CX k f fd ps sp) (rm : Room k X.A) (gd : X.A.guards = some []) (hb : Binds X.K fd ps []) (hx : Passes CX X E) : OpR X (binaryOp op) (rOwnI C sp E) := by
  intro pins s σ H x y v u Q I rx ry h
  obtain ⟨a, dx, fs, i, rfl, ea, rfl, q⟩ := h
  obtain rfl : v = Value.ref a := rx
  obtain ⟨t, rfl⟩ := ry
  obtain ⟨mA, J, _⟩ := ins_get I.hok ea
  obtain ⟨od, J, _⟩ := J.look
  obtain ⟨m, fr⟩ := I.fr
  obtain ⟨rc, hr, hp⟩ := O.refl
  obtain ⟨fo, h1⟩ := O.int1
  obtain ⟨ro, h2⟩ := O.int2
  have r2 : Vals [V.ref a, .int i] [Value.ref a, .int i t] := .cons rfl (.cons ⟨t, rfl⟩ .nil)
  have bt := bind_pos (dvs := []) (vs := [V.ref a, .int i]) F hb .nil I.kIn r2 q
  refine PySem.W.ksp_binT fr I.ok.mod.kin J rfl O.first O.own O.fn hr hp h1 h2 O.sub ?_
  refine wpAny_mono (run_g (us := [.ref a, .int i t]) F rm gd hx I bt r2 q) (fun v s' hv => ?_) fun _ _ z => z
  have rv : ∃ z, RelV z v := let ⟨z, _, _, rz, _⟩ := hv; ⟨z, rz⟩
  exact rv.elim fun z rz => SlX.cmpback rz hv
theorem w_own {a dx : Addr} {fs : List (Str × V)} {i : Int} {H : Hp} {Q : VK} (h : H a = some (.ins C dx fs)) (q : sp [.ref a, .int i] H Q E) : rOwnI C sp E (.ref a) (.int i) H Q := ⟨a, dx, fs, i, rfl, h, rfl, q⟩
/-! ### o(e, ..), o an own object that a name holds -/
def tOwnC (C : Addr) (sp : Sp) (E : XK) (n : Nat) (ta : TA) : TE := fun σ H Q => ∃ a : Addr, σ[n]? = some (some (.ref a)) ∧ ta σ H fun vs H1 => ∃ dx fs, H1 a = some (.ins C dx fs) ∧ sp (.ref a :: vs) H1 Q E
theorem own_with {M : Model} {A : Around} {W : Value → Shared → Prop} {s : Shared} {x C : Addr} {K : PySem.W.Frag} {args : List (Bool × Sem Value)} {Q : Value → Shared → Prop} (plain : (args.any (·.1) || ([] : List (Option Str × Sem Value)).any (·.1.isNone)) = false)
    (h : wpAny M A (evalArgs (.ref x) true args []) (fun a s1 => (∃ ox od, PySem.W.InstAt s1.heap x ox C od ∧ ox.data = .plain) ∧ wpAny M A (call (.ref x) a.pos a.kw) Q W s1) W s) : wpAny M A (callWith pos (.ref x) [] args []) Q W s := by
  unfold callWith
  refine wpAny_bind (wpAny_holding (wpAny_mono h (fun a s1 ⟨⟨ox, od, J, hd⟩, g⟩ => wpAny_bind (wpAny_standAt ?_)) fun _ _ z => z))
  simp only [plain]
  refine wpAny_bind ((PySem.W.kco_keeper (M := M) J hd).here ?_)
  have behind : ∀ {t : Sem Value}, wpAny M A t Q W s1 → wpAny M A (t >>= fun r => holding [r] point >>= fun _ => pure r) Q W s1 := fun ht =>
    wpAny_bind (wpAny_mono ht (fun r s2 hr => wpAny_bind (wpAny_holding (wpAny_point (wpAny_pure hr)))) fun _ _ z => z)
  exact behind (wpAny_operateT g)
theorem pe_ownC {n : Nat} (O : PySem.W.findIn X.K (.ref C) "__call__" = some (some (.ref f))) (fn : PySem.W.isFn X.K (.ref f) = true) (fi : PySem.W.fnIn X.K f = true) (F : Gd X.prog X.w X.K X.mg X.base CX k f fd ps sp) (rm : Room k X.A) (gd : X.A.guards = some []) (hb : Binds X.K fd ps []) (hx : Passes CX X E)
    (hv : PE X (.Name x p) (tVar n)) (ha : PA X (e :: es) ta) (he : starEach (e :: es) X.env = (false, eval e X.env) :: starEach es X.env := by rfl) (hpl : (backTo pos (starEach es X.env)).any (·.1) = false := by rfl) :
    PE X (.Call (.Name x p) (e :: es) [] pos) (tOwnC C sp E n ta) := by
  refine ⟨fun pins s σ H Q I h => ?_⟩
  obtain ⟨a, ea, q⟩ := h
  refine wpAny_Call_Name_kw (wpAny_mono (hv.run pins s σ H (fun v H' => v = .ref a ∧ ta σ H' fun vs H1 => ∃ dx fs, H1 a = some (.ins C dx fs) ∧ sp (.ref a :: vs) H1 Q E) I ⟨_, ea, rfl, q⟩) (fun u s1 hu => ?_) fun _ _ z => z)
  obtain ⟨v, H1, I1, rv, ev, q1⟩ := hu
  subst ev
  obtain rfl : u = Value.ref a := rv
  show wpAny _ _ (callWith pos (.ref a) [] (backTo pos (starEach (e :: es) X.env)) []) _ _ _
  rw [he]
  refine own_with (K := X.K) (C := C) (by show ((false || (backTo pos (starEach es X.env)).any (·.1)) || false) = false; rw [hpl]; rfl) (evalArgs_plain ?_)
  have args := ha.run pos pins s1 σ H1 _ I1 q1
  rw [he] at args
  refine wpAny_mono args (fun us s2 hs => ?_) fun _ _ z => z
  obtain ⟨vs, H2, J, r, dx, fs, ea2, q2⟩ := hs
  obtain ⟨mA, Z, _⟩ := ins_get J.hok ea2
  obtain ⟨od, Z, zd⟩ := Z.look
  refine ⟨⟨_, od, Z, by first | exact zd | rfl⟩, wpAny_call (PySem.W.kco_code J.kIn Z (by first | exact zd | rfl) O fn fi ?_)⟩
  have r1 : Vals (V.ref a :: vs) (Value.ref a :: us) := .cons rfl r
  refine codeAny_mono (F.go X.A X.stack s2 H2 ⟨.ref a :: us, []⟩ _ _ _ E rm gd J.env0 (bind_pos (dvs := []) F hb .nil J.kIn r1 (by rw [List.append_nil]; exact q2)) (by rw [List.append_nil]; exact r1) q2) fun out s' hq => ?_
  match out, hq with
  | .error e, hq => exact hx pins σ H2 s2 e s' J hq
  | .ok (.ret u), hq => exact J.after hq
/-! ### f(k = v, ..) -/
def tCallK (j : Nat) (sp : Sp) (gV : List V → List V) (E : XK) (tk : TA) : TE := fun σ H Q => tk σ H fun zs H2 => zs.length = j ∧ sp (gV zs) H2 Q E
theorem pe_gcallK {g : List Value → List Value → List Value} {gV : List V → List V → List V} (F : Gd X.prog X.w X.K X.mg X.base CX k f fd ps sp) (rm : Room k X.A) (gd : X.A.guards = some []) (gl : Gl X x) (at_ : X.mg x = some (.ref f)) (kp : PySem.W.keepIn X.K (.ref f) = true)
    (hb : KBn X.K fd ps 0 ks g gV) (hx : Passes CX X E) (hkw : PK X kws tk) (hall : (backToKw pos (keywordEach kws X.env)).all (·.1.isSome) = true := by rfl) (hks : (backToKw pos (keywordEach kws X.env)).filterMap (·.1) = ks := by rfl)
    (hdb : (x == ("__debug__" : Str)) = false := by decide) (hpl : ((backTo pos (starEach [] X.env)).any (·.1) || (backToKw pos (keywordEach kws X.env)).any (·.1.isNone)) = false := by rfl) :
    PE X (.Call (.Name x p) [] kws pos) (tCallK ks.length sp (gV []) E tk) := by
  refine ⟨fun pins s σ H Q I h => wpAny_Call_Name_kw (ld_glob I gl at_ (PySem.W.callWith_KW0 (first := []) (h₀ := X.base) I.ok.mod.kin kp hall (thn (hkw.run pos pins s σ H _ I h) fun ws s2 ⟨zs, H2, J, rz, lz, q2⟩ => ⟨J.kIn, ?_⟩) hpl) hdb)⟩
  rw [hks]
  exact run_g (us := []) F rm gd hx J (hb.to s2 [] ws J.kIn rfl (rz.length.symm.trans lz)) (hb.rel .nil rz) q2
theorem w_callK {σ : L2.St} {H : Hp} {Q : VK} {j : Nat} {gV : List V → List V} (q : tk σ H fun zs H2 => zs.length = j ∧ sp (gV zs) H2 Q E) : tCallK j sp gV E tk σ H Q := q
end
/-! ### defaults of a method -/
section
variable {P : Program} {w : World} {K : PySem.W.Frag} {mg : Str → Option Value} {base : Heap} {k : Nat} {x qual : Str} {st : Stmt} {ps N : List Str} {sp : Sp} {f : Addr} {fd : FuncData} {dvs : List V} {kws : List (Str × V)}
theorem gdD (F : FunD K x qual (defArgs st) (defBody st) (defScope st) dvs kws f fd) (sc : FnScope N ps (defScope st)) (len : ∀ vs H Q E, sp vs H Q E → vs.length = ps.length)
    (inner : ∀ (cdv : Value) (A : Around) (outer : List Env) (s : Shared) (H : Hp) (vs : List V) (Q : VK) (E : XK),
      Room k (A.deeper (envOfC qual (defScope st) s.heap.objs.size f cdv)) → (A.deeper (envOfC qual (defScope st) s.heap.objs.size f cdv)).guards = some [] → sp vs H Q E →
      ∃ t, PSs (cxOf (L2.CX P w) P w K mg base N qual (defScope st) f cdv A outer s H E) (defBody st) t ∧ t { nx := fun _ H' => Q .non H', rt := Q } (start N vs) H) :
    Gd P w K mg base (L2.CX P w) (k + 1) f fd ps sp := by
  obtain ⟨oc, od, dV, kV, doc, pm, an, cdv, ct, osl, rfl, found, code, _, _⟩ := F.ex
  exact gd_of found code sc len fun A outer s H vs Q E rm gd q => inner cdv A outer s H vs Q E rm gd q
/-- a def of the text that may raise -/
theorem gdF {x : Str} (F : Fun K x qual st f fd) (sc : FnScope N ps (defScope st)) (len : ∀ vs H Q E, sp vs H Q E → vs.length = ps.length)
    (inner : ∀ (cdv : Value) (A : Around) (outer : List Env) (s : Shared) (H : Hp) (vs : List V) (Q : VK) (E : XK),
      Room k (A.deeper (envOfC qual (defScope st) s.heap.objs.size f cdv)) → (A.deeper (envOfC qual (defScope st) s.heap.objs.size f cdv)).guards = some [] → sp vs H Q E →
      ∃ t, PSs (cxOf (L2.CX P w) P w K mg base N qual (defScope st) f cdv A outer s H E) (defBody st) t ∧ t { nx := fun _ H' => Q .non H', rt := Q } (start N vs) H) :
    Gd P w K mg base (L2.CX P w) (k + 1) f fd ps sp := gdX F sc len inner
end
/-- the def x, promised sp, which may raise -/
def CalX (P : Program) (w : World) (K : PySem.W.Frag) (mg : Str → Option Value) (base : Heap) (j : Nat) (x : Str) (ps : List Str) (sp : Sp) : Prop :=
  ∃ f fd, mg x = some (.ref f) ∧ PySem.W.keepIn K (.ref f) = true ∧ Binds K fd ps [] ∧ (∃ (oc : Value) (od : Option Addr) (osl : Array (Option Value)), K.lookup f = some ⟨oc, od, .func fd, osl⟩) ∧ Gd P w K mg base (L2.CX P w) j f fd ps sp
/-- .. called by keywords alone -/
def CalK (P : Program) (w : World) (K : PySem.W.Frag) (mg : Str → Option Value) (base : Heap) (j : Nat) (x : Str) (ks : List Str) (is : List Nat) (sp : Sp) : Prop :=
  ∃ f fd ps, mg x = some (.ref f) ∧ PySem.W.keepIn K (.ref f) = true ∧ KBn K fd ps 0 ks (fun us ws => us ++ sel is ws) (fun vs zs => vs ++ sel is zs) ∧ Gd P w K mg base (L2.CX P w) j f fd ps sp
section
variable {P : Program} {w : World} {K : PySem.W.Frag} {mg : Str → Option Value} {base : Heap} {k j : Nat} {x : Str} {st : Stmt} {ps N ks : List Str} {is : List Nat} {sp : Sp}
theorem DefAt.calX (D : DefAt K mg x st ps) (sc : FnScope N ps (defScope st)) (len : ∀ vs H Q E, sp vs H Q E → vs.length = ps.length)
    (inner : ∀ (f : Addr) (cdv : Value) (A : Around) (outer : List Env) (s : Shared) (H : Hp) (vs : List V) (Q : VK) (E : XK),
      Room k (A.deeper (envOfC x (defScope st) s.heap.objs.size f cdv)) → (A.deeper (envOfC x (defScope st) s.heap.objs.size f cdv)).guards = some [] → sp vs H Q E →
      ∃ t, PSs (cxOf (L2.CX P w) P w K mg base N x (defScope st) f cdv A outer s H E) (defBody st) t ∧ t { nx := fun _ H' => Q .non H', rt := Q } (start N vs) H) :
    CalX P w K mg base (k + 1) x ps sp := by
  obtain ⟨f, fd, a, F, b⟩ := D.ex
  have G : Gd P w K mg base (L2.CX P w) (k + 1) f fd ps sp := gdX F sc len (inner f)
  obtain ⟨oc, od, kV, doc, pm, an, cdv, ct, osl, e, found, code⟩ := F.ex
  exact ⟨f, fd, a, F.kp, b, ⟨oc, od, osl, by rw [found, e]⟩, G⟩
theorem CalX.kw (c : CalX P w K mg base j x ps sp) (D : DefAt K mg x st ps) (h : BindOkK x x st ps 0 ks is) : CalK P w K mg base j x ks is sp := by
  obtain ⟨f, fd, a, kp, b, ⟨oc, od, osl, l⟩, G⟩ := c
  obtain ⟨f', fd', a', F, _⟩ := D.ex
  rw [a] at a'
  cases a'
  have e : fd' = fd := by
    obtain ⟨_, _, _, _, _, _, _, _, _, _, found, _⟩ := F.ex
    rw [l] at found
    cases found
    rfl
  rw [e] at F
  exact ⟨f, fd, ps, a, kp, kbn_of F 0 ks is h, G⟩
end
section
variable {X : Cx} {j k : Nat} {x : Str} {ps ks : List Str} {is : List Nat} {sp : Sp} {p pos : Pos} {e : Expr} {es : List Expr} {kws : List Keyword} {t tk : TA} {E : XK}
theorem pcX (c : CalX X.prog X.w X.K X.mg X.base j x ps sp) (hx : Passes (L2.CX X.prog X.w) X E) (rm : Room k X.A) (hk : j ≤ k) (gd : X.A.guards = some []) (gl : Gl X x) (ha : PA X (e :: es) t)
    (hdb : (x == ("__debug__" : Str)) = false := by decide) (he : starEach (e :: es) X.env = (false, eval e X.env) :: starEach es X.env := by rfl) (hpl : (backTo pos (starEach es X.env)).any (·.1) = false := by rfl) :
    PE X (.Call (.Name x p) (e :: es) [] pos) (tCall sp [] E t) := by
  obtain ⟨f, fd, a, kp, b, _, F⟩ := c
  exact pe_gcall F (rm.mono hk) gd gl a kp b .nil hx ha hdb he hpl
theorem pcK (c : CalK X.prog X.w X.K X.mg X.base j x ks is sp) (hx : Passes (L2.CX X.prog X.w) X E) (rm : Room k X.A) (hk : j ≤ k) (gd : X.A.guards = some []) (gl : Gl X x) (hkw : PK X kws tk)
    (hall : (backToKw pos (keywordEach kws X.env)).all (·.1.isSome) = true := by rfl) (hks : (backToKw pos (keywordEach kws X.env)).filterMap (·.1) = ks := by rfl)
    (hdb : (x == ("__debug__" : Str)) = false := by decide) (hpl : ((backTo pos (starEach [] X.env)).any (·.1) || (backToKw pos (keywordEach kws X.env)).any (·.1.isNone)) = false := by rfl) :
    PE X (.Call (.Name x p) [] kws pos) (tCallK ks.length sp (fun zs => [] ++ sel is zs) E tk) := by
  obtain ⟨f, fd, ps, a, kp, b, F⟩ := c
  exact pe_gcallK F (rm.mono hk) gd gl a kp b hx hkw hall hks hdb hpl
end
/-! ### a written dict with whole numbers as keys -/
inductive KEnts : List DictEntry → List (Int × V) → Prop
  | nil : KEnts [] []
  | cons {e : DictEntry} {i : Int} {v : V} {es : List DictEntry} {kvs : List (Int × V)} : (∃ t, e.key = .int i t) → e.hash = hashInt i → RelV v e.val → KEnts es kvs → KEnts (e :: es) ((i, v) :: kvs)
def KID (K : PySem.W.Frag) (p : Addr) (kvs : List (Int × V)) : Prop := (p == sysModules) = false ∧ ∃ (es : List DictEntry) (n : Nat), K.lookup p = some ⟨.type "dict", none, .dict es.toArray n, #[]⟩ ∧
  KEnts es kvs
theorem kid_find {es : List DictEntry} {kvs : List (Int × V)} (h : KEnts es kvs) (i : Int) :
    (kvs.lookup i = none ∧ findBy Value.isInt es.toArray i = none) ∨ ∃ v u, kvs.lookup i = some v ∧ findBy Value.isInt es.toArray i = some u ∧ RelV v u := by
  unfold findBy
  rw [List.find?_toArray]
  induction h with
  | nil => exact .inl ⟨rfl, rfl⟩
  | @cons e j v es kvs hk _ rv t ih =>
    obtain ⟨tk, ek⟩ := hk
    have e1 : Value.isInt i e.key = decide (j = i) := by
      rw [ek]
      show (j == i) = decide (j = i)
      by_cases h : j = i
      · rw [decide_eq_true h, h]; exact beq_self_eq_true i
      · rw [decide_eq_false h]; exact beq_eq_false_iff_ne.mpr h
    by_cases z : j = i
    · subst z
      refine .inr ⟨v, e.val, by simp [List.lookup_cons], ?_, rv⟩
      rw [List.find?_cons_of_pos (by rw [e1]; exact decide_eq_true rfl)]
      rfl
    · have n1 : (i == j) = false := beq_eq_false_iff_ne.mpr (Ne.symm z)
      rw [List.lookup_cons, n1, List.find?_cons_of_neg (by rw [e1]; simpa using z)]
      exact ih
section
variable {X : Cx}
theorem kid_map {p : Addr} {kvs : List (Int × V)} {h : Heap} (kin : X.K.In h) {es : List DictEntry} {n : Nat} (l : X.K.lookup p = some ⟨.type "dict", none, .dict es.toArray n, #[]⟩) (f : KEnts es kvs) :
    h.MapOf (intKind X.prog X.w) p fun i => findBy Value.isInt es.toArray i := by
  refine ⟨_, es.toArray, n, kin _ _ l, ⟨rfl, rfl, rfl⟩, rfl, fun e he => ?_, fun _ => rfl⟩
  have he : e ∈ es := by simpa using he
  revert he
  clear l
  intro he
  rename e ∈ es.toArray => old
  clear old
  induction f with
  | nil => cases he
  | cons a hh _ _ ih =>
    rcases List.mem_cons.mp he with z | z
    · subst z
      obtain ⟨t, ek⟩ := a
      exact ⟨_, by rw [ek]; exact intKind_is _ _ _ _, hh⟩
    · exact ih z
def rInKI (K : PySem.W.Frag) : R2 := fun x y H Q => ∃ (i : Int) (p : Addr) (kvs : List (Int × V)), x = .int i ∧ y = .ref p ∧ KID K p kvs ∧ Q (.bl (kvs.lookup i).isSome) H
theorem op_inKI : OpR X (compareOp .In) (rInKI X.K) := by
  intro pins s σ H x y v u Q I rx ry h
  obtain ⟨i, p, kvs, rfl, rfl, ⟨lo, es, n, l, f⟩, q⟩ := h
  obtain ⟨t, rfl⟩ := rx
  cases ry
  refine wpAny_in_of (intKind_is X.prog X.w i t) lo (kid_map I.kIn l f) ?_
  have e : (findBy Value.isInt es.toArray i).isSome = (kvs.lookup i).isSome := by
    rcases kid_find f i with ⟨a, b⟩ | ⟨_, _, a, b, _⟩ <;> rw [a, b] <;> rfl
  rw [e]
  exact ⟨.bl (kvs.lookup i).isSome, H, I.tok _, rfl, q⟩
def rIxKI (K : PySem.W.Frag) : R2 := fun x y H Q => ∃ (i : Int) (p : Addr) (kvs : List (Int × V)) (v : V), x = .ref p ∧ y = .int i ∧ KID K p kvs ∧ kvs.lookup i = some v ∧ Q v H
theorem ix_KI : IxR X (rIxKI X.K) := by
  intro value slice pins s σ H x y v u Q I rx ry h hs
  obtain ⟨i, p, kvs, z, rfl, rfl, ⟨lo, es, n, l, f⟩, hz, q⟩ := h
  obtain rfl : v = Value.ref p := rx
  obtain ⟨t, rfl⟩ := ry
  have hm := kid_map I.kIn l f
  rcases kid_find f i with ⟨a, _⟩ | ⟨v1, u1, a, b, r⟩
  · rw [a] at hz; cases hz
  · rw [a] at hz
    cases hz
    exact tail_any hm.typeIs slot_dict_getitem.lookup (wpAny_getItem_of (intKind_is X.prog X.w i t) hm b ⟨_, H, I.tok _, r, q⟩) hs
end
/-! ### steps -/
section
variable {σ : L2.St} {H : Hp} {Q : VK} {ta tb tc : TE} {i j : Int}
/-- what a comprehension asks -/
def LcQ (J : It) (g : TG) (tt : TT) (te : TE) (vs : List Nat) (σ : L2.St) (H1 : Hp) (Q : VK) : Prop := ∀ D, H1 D = none → ∃ W : Nat → Nat → Hp → Prop, (∃ m, W 0 m (upd H1 D (.lst []))) ∧ ∀ i m H, W i m H →
  (J.stop i H ∧ Q (.ref D) H) ∨ (J.go i H ∧ ∃ Nx : Hp → Prop, (∀ H', Nx H' → ∃ m', m' < m ∧ W (i + 1) m' H') ∧ ∀ x H', J.yld i H x H' → g x (wipe σ vs) H' fun σ2 H2 => wipe σ2 vs = wipe σ vs ∧ tt σ2 H2 fun b H3 =>
    if b = true then te σ2 H3 fun y H4 => ∃ acc, H4 D = some (.lst acc) ∧ acc.length < sizeLine ∧ Nx (upd H4 D (.lst (acc ++ [y]))) else Nx H3)
theorem w_lc {wi : TI} {g : TG} {tt : TT} {te : TE} {vs : List Nat} (q : wi σ H fun J H1 => LcQ J g tt te vs σ H1 Q) : tLc wi g tt te vs σ H Q := q
theorem w_notV (q : ta σ H fun x H1 => ∃ c, x = .bl c ∧ Q (.bl (!c)) H1) : tNotV ta σ H Q := q
theorem w_chain {r r' : R2} (q : ta σ H fun x H1 => tb σ H1 fun y H2 => r x y H2 fun z H3 => ∃ k, z = .bl k ∧ (if k = true then tc σ H3 fun w' H4 => r' y w' H4 Q else Q (.bl false) H3)) : tChain r r' ta tb tc σ H Q := q
theorem w_neg (q : Q (.int (-i)) H) : rU (fun i => .int (-i)) (.int i) H Q := ⟨i, rfl, q⟩
theorem w_shl (c : CPow i j) (q : Q (.int (i * 2 ^ j.toNat)) H) : rI CPow (fun i j => .int (i * 2 ^ j.toNat)) (.int i) (.int j) H Q := ⟨i, j, rfl, rfl, c, q⟩
theorem w_shr (c : 0 ≤ j) (q : Q (.int (i / 2 ^ j.toNat)) H) : rI (fun _ j => 0 ≤ j) (fun i j => .int (i / 2 ^ j.toNat)) (.int i) (.int j) H Q := ⟨i, j, rfl, rfl, c, q⟩
end
end KG

set_option Elab.async false
set_option linter.all false
set_option maxRecDepth 100000
set_option maxHeartbeats 1000000
/-! KP: operators with a whole number on the left of an own object, in-place forms of own operators, the unary one. -/
namespace KG
open PySem PySem.Spec PySem.Calls PyProof.Rows L2
/-- what a whole number's own operator says beside an own object -/
def Nay (op : Operator) (idl : String) : Prop := ∀ (prog : Program) (w : World) (A : Around) (E : Value → Shared → Prop) (s : Shared) (i : Int) (t : Tok) (x C dx : Addr) (Q : Option Value → Shared → Prop), s.heap.get? x = some (PySem.W.instObj C dx) → Q none s → wpAny (model prog w) A (tryMethod (.int i t) (PySem.dunder op.info.2) (.ref x)) Q E s
theorem meets_and (i : Int) (t : Tok) (x C dx : Addr) : Meets (Builtin.«int.__and__» ⟨[.int i t, .ref x], []⟩) (fun _ R s => s.heap.get? x = some (PySem.W.instObj C dx) ∧ R (.ok (.ret Value.notImplemented)) s) :=
  .of_wp fun prog w A R s h => by
    obtain ⟨hp, g, d, tk, os⟩ := s
    obtain ⟨hl, h⟩ := h
    wp_walk using wpAny_loadPart' hl
    exact ⟨_, rfl, h⟩
theorem nay_and : Nay .BitAnd "int.__and__" := by
  intro prog w A E s i t x C dx Q ho q
  exact wpAny_tryMethod_declines (name := PySem.dunder "and") (typeIs_int s i t) PyProof.Rows.slot_int_and (call_meets PyProof.Rows.slot_int_and (typeIs_int s i t) PyProof.Rows.entry_int_and (PyProof.Rows.args_int_and _ _) (meets_and i t x C dx) ⟨ho, rfl, q⟩)
theorem meets_or (i : Int) (t : Tok) (x C dx : Addr) : Meets (Builtin.«int.__or__» ⟨[.int i t, .ref x], []⟩) (fun _ R s => s.heap.get? x = some (PySem.W.instObj C dx) ∧ R (.ok (.ret Value.notImplemented)) s) :=
  .of_wp fun prog w A R s h => by
    obtain ⟨hp, g, d, tk, os⟩ := s
    obtain ⟨hl, h⟩ := h
    wp_walk using wpAny_loadPart' hl
    exact ⟨_, rfl, h⟩
theorem nay_or : Nay .BitOr "int.__or__" := by
  intro prog w A E s i t x C dx Q ho q
  exact wpAny_tryMethod_declines (name := PySem.dunder "or") (typeIs_int s i t) PyProof.Rows.slot_int_or (call_meets PyProof.Rows.slot_int_or (typeIs_int s i t) PyProof.Rows.entry_int_or (PyProof.Rows.args_int_or _ _) (meets_or i t x C dx) ⟨ho, rfl, q⟩)
theorem meets_xor (i : Int) (t : Tok) (x C dx : Addr) : Meets (Builtin.«int.__xor__» ⟨[.int i t, .ref x], []⟩) (fun _ R s => s.heap.get? x = some (PySem.W.instObj C dx) ∧ R (.ok (.ret Value.notImplemented)) s) :=
  .of_wp fun prog w A R s h => by
    obtain ⟨hp, g, d, tk, os⟩ := s
    obtain ⟨hl, h⟩ := h
    wp_walk using wpAny_loadPart' hl
    exact ⟨_, rfl, h⟩
theorem nay_xor : Nay .BitXor "int.__xor__" := by
  intro prog w A E s i t x C dx Q ho q
  exact wpAny_tryMethod_declines (name := PySem.dunder "xor") (typeIs_int s i t) PyProof.Rows.slot_int_xor (call_meets PyProof.Rows.slot_int_xor (typeIs_int s i t) PyProof.Rows.entry_int_xor (PyProof.Rows.args_int_xor _ _) (meets_xor i t x C dx) ⟨ho, rfl, q⟩)
section
variable {prog : Program} {w : World} {A : Around} {E : Value → Shared → Prop} {s : Shared} {K : PySem.W.Frag} {x C dx f g : Addr} {od : Option Obj} {h₀ : Heap} {L : Addr} {m : Str → Option Value} {op : Operator} {idl : String} {i : Int} {t : Tok}
/-- i op o, o an own object whose class has the operator on both sides -/
theorem back_side {Q : Value → Shared → Prop} (X : K.In s.heap) (I : PySem.W.InstAt s.heap x (PySem.W.instObj C dx) C od) (hc : PySem.W.selfFirst K C = true)
    (hs : PySem.W.findIn K (.ref C) (PySem.dunder op.info.2) = some (some (.ref f))) (hr : PySem.W.findIn K (.ref C) (dunderR op.info.2) = some (some (.ref g))) (hg : PySem.W.isFn K (.ref g) = true)
    (hsub : PySem.W.subIn K (.ref C) (.type "int") = some false) (fills : fillsNumberSlot (.type "int") op.info.2 = pure true) (no : Nay op idl)
    (q : wpAny (model prog w) A (call (.ref g) [.ref x, .int i t]) (PySem.W.CmpBack Q) E s) : wpAny (model prog w) A (binaryOp op (.int i t) (.ref x)) Q E s := by
  obtain ⟨cd, rest, ec, em⟩ := PySem.W.ksp_first hc
  have fl := PySem.W.fills_K (M := model prog w) X ec em hs
  have tx := I.type (M := model prog w)
  have tr := PySem.W.ksp_try (M := model prog w) (A := A) (E := E) X I hr hg q
  have tl : ∀ Q', Q' none s → wpAny (model prog w) A (tryMethod (.int i t) (PySem.dunder op.info.2) (.ref x)) Q' E s := fun Q' z => no prog w A E s i t x C dx Q' I.at_ z
  have sb := PySem.W.looks_subIn (M := model prog w) X hsub
  rcases ho : op.info with ⟨sym, nm⟩
  rw [ho] at fl tr tl fills
  simp only at fl tr tl fills
  have ne : (Value.type "int" == Value.ref C) = false := rfl
  have np : numberSlotInPython (.type "int") nm = pure false := rfl
  simp only [binaryOp, ho]
  refine wpAny_holding (wpAny_bind ?_)
  unfold binaryOp1
  refine wpAny_bind (wpAny_typeOf (typeIs_int s i t) (wpAny_bind (tx.here (wpAny_bind (wpAny_of_eq fills ?_)))))
  simp only [ne, Bool.false_eq_true, if_false]
  refine wpAny_bind (fl.here ?_)
  simp only [Bool.and_self, if_true]
  refine wpAny_bind (sb.here ?_)
  simp only [Bool.false_eq_true, if_false, pure_bind, Bool.not_false, Bool.and_self, if_true, np]
  refine wpAny_bind (tl _ ?_)
  refine wpAny_bind (wpAny_mono tr (fun r s' z => ?_) fun _ _ z => z)
  obtain ⟨v, rfl, z⟩ := z
  exact wpAny_bind (wpAny_rule (wpAny_pure (wpAny_pure z)))
/-- what o op i asks and does, o an own object whose class has the operator, i a whole number -/
theorem fore_side {Q : Option Value → Shared → Prop} {rc ro : Option Value} (X : K.In s.heap) (I : PySem.W.InstAt s.heap x (PySem.W.instObj C dx) C od) (hc : PySem.W.selfFirst K C = true)
    (hs : PySem.W.findIn K (.ref C) (PySem.dunder op.info.2) = some (some (.ref f))) (hf : PySem.W.isFn K (.ref f) = true) (hr : PySem.W.findIn K (.ref C) (dunderR op.info.2) = some rc) (hp : rc = none ∨ ∃ b : Addr, rc = some (.ref b))
    (hsub : PySem.W.subIn K (.type "int") (.ref C) = some false) (fills : fillsNumberSlot (.type "int") op.info.2 = pure true) (hi : PySem.W.findIn K (.type "int") (dunderR op.info.2) = some ro)
    (q : wpAny (model prog w) A (call (.ref f) [.ref x, .int i t]) (PySem.W.CmpBack fun v => Q (some v)) E s) : wpAny (model prog w) A (binaryOp1 op.info.2 (.ref x) (.int i t)) Q E s := by
  obtain ⟨cd, rest, ec, em⟩ := PySem.W.ksp_first hc
  have fl := PySem.W.fills_K (M := model prog w) X ec em hs
  have tx := I.type (M := model prog w)
  have tr := PySem.W.ksp_try (M := model prog w) (A := A) (E := E) (Q := fun v => Q (some v)) X I hs hf q
  have py := PySem.W.ksp_inPy (M := model prog w) X hs hr hp
  have sb := PySem.W.looks_subIn (M := model prog w) X hsub
  have lr := PySem.W.looks_findIn (M := model prog w) X hi
  generalize op.info.2 = nm at fl tr py lr fills
  have ne : (Value.ref C == Value.type "int") = false := rfl
  have np : numberSlotInPython (.type "int") nm = pure false := rfl
  unfold binaryOp1
  refine wpAny_bind (tx.here (wpAny_bind (wpAny_typeOf (typeIs_int s i t) (wpAny_bind (fl.here ?_)))))
  simp only [ne, Bool.false_eq_true, if_false]
  refine wpAny_bind (wpAny_of_eq fills ?_)
  simp only [Bool.and_self, if_true]
  refine wpAny_bind (sb.here ?_)
  simp only [Bool.false_eq_true, if_false, pure_bind, Bool.not_false, Bool.and_self, if_true]
  refine wpAny_bind (py.here ?_)
  simp only [if_true, np, pure_bind, Bool.not_false]
  refine wpAny_bind (lr.here ?_)
  refine wpAny_bind (wpAny_mono tr (fun r s' z => ?_) fun _ _ z => z)
  obtain ⟨v, rfl, z⟩ := z
  exact wpAny_pure z
theorem none_any {M : Model} {h : Heap} {i' : Str} {g' : Value → Option Value → Sem Bool} (X : K.In h) (z : ∀ c, g' c none = pure false) : ∀ {cs : List Value}, (∀ c ∈ cs, PySem.W.findIn K c i' = some none) →
    PySem.W.Looks M h (cs.anyM fun c => typeLookup c i' >>= g' c) false
  | [], _ => .of_pure rfl
  | c :: cs, a => fun A Q E s k q => by
    rw [List.anyM_cons]
    refine wpAny_bind (wpAny_bind ((PySem.W.looks_findIn X (a c (.head _))) A _ E s k ?_))
    rw [z c]
    refine wpAny_pure ?_
    simp only [Bool.false_eq_true, if_false]
    exact none_any X z (fun c' m => a c' (.tail _ m)) A Q E s k q
/-- a class that has no in-place form of an operator -/
theorem no_inp {M : Model} {h : Heap} {cd : ClassData} {nm : String} {add : Bool} (X : K.In h) (hc : PySem.W.clsIn K C = some cd) (hn : ∀ c ∈ cd.mro, PySem.W.findIn K c (dunderI nm) = some none) : PySem.W.Looks M h (fillsInplaceSlot (.ref C) nm add) false := fun A Q E s k q => by
  have Lm : PySem.W.Looks M h (mroOf (.ref C)) cd.mro := (PySem.W.looks_clsIn X hc).andThen (f := fun cd => pure cd.mro) .now
  unfold fillsInplaceSlot
  exact wpAny_bind (Lm A _ E s k (none_any X (fun _ => rfl) hn A Q E s k q))
/-- o op= i where the class has the operator and no in-place form of it -/
theorem inp_side {Q : Value → Shared → Prop} {cd : ClassData} {rc ro : Option Value} (X : K.In s.heap) (I : PySem.W.InstAt s.heap x (PySem.W.instObj C dx) C od) (hc : PySem.W.selfFirst K C = true) (hd : PySem.W.clsIn K C = some cd) (hn : ∀ c ∈ cd.mro, PySem.W.findIn K c (dunderI op.info.2) = some none)
    (hs : PySem.W.findIn K (.ref C) (PySem.dunder op.info.2) = some (some (.ref f))) (hf : PySem.W.isFn K (.ref f) = true) (hr : PySem.W.findIn K (.ref C) (dunderR op.info.2) = some rc) (hp : rc = none ∨ ∃ b : Addr, rc = some (.ref b))
    (hsub : PySem.W.subIn K (.type "int") (.ref C) = some false) (fills : fillsNumberSlot (.type "int") op.info.2 = pure true) (hi : PySem.W.findIn K (.type "int") (dunderR op.info.2) = some ro)
    (q : wpAny (model prog w) A (call (.ref f) [.ref x, .int i t]) (PySem.W.CmpBack Q) E s) : wpAny (model prog w) A (inplaceOp op (.ref x) (.int i t)) Q E s := by
  have tx := I.type (M := model prog w)
  have nf := no_inp (M := model prog w) (nm := op.info.2) (add := op == .Add) X hd hn
  unfold inplaceOp
  refine wpAny_holding (wpAny_bind (tx.here (wpAny_bind (nf.here ?_))))
  simp only [Bool.false_eq_true, if_false, pure_bind]
  refine wpAny_bind (fore_side X I hc hs hf hr hp hsub fills hi (wpAny_mono q (fun v s' z => ?_) fun _ _ z => z))
  cases v <;> first | exact z.elim | exact wpAny_pure z
end
section
variable {X : Cx} {CX : CXT} {k : Nat} {f g C : Addr} {fd : FuncData} {ps : List Str} {sp : Sp} {E : XK} {op : Operator} {idl : String}
/-- i op o, i a whole number, o an own object -/
def rBackI (C : Addr) (sp : Sp) (E : XK) : R2 := fun x y H Q => ∃ (a dx : Addr) (fs : List (Str × V)) (i : Int), y = .ref a ∧ H a = some (.ins C dx fs) ∧ x = .int i ∧ sp [.ref a, .int i] H Q E
/-- what the class has for an operator from behind -/
structure BackAt (K : PySem.W.Frag) (C f g : Addr) (op : Operator) (idl : String) : Prop where
  first : PySem.W.selfFirst K C = true
  own : PySem.W.findIn K (.ref C) (PySem.dunder op.info.2) = some (some (.ref f))
  back : PySem.W.findIn K (.ref C) (dunderR op.info.2) = some (some (.ref g))
  fn : PySem.W.isFn K (.ref g) = true
  sub : PySem.W.subIn K (.ref C) (.type "int") = some false
  fills : fillsNumberSlot (.type "int") op.info.2 = pure true
  nay : Nay op idl
/-- what the class has for an in-place form -/
structure InAt (K : PySem.W.Frag) (C f : Addr) (op : Operator) : Prop extends OpAt K C f op where
  none_ : ∃ cd, PySem.W.clsIn K C = some cd ∧ ∀ c ∈ cd.mro, PySem.W.findIn K c (dunderI op.info.2) = some none
  fills : fillsNumberSlot (.type "int") op.info.2 = pure true
theorem op_backI (O : BackAt X.K C f g op idl) (F : Gd X.prog X.w X.K X.mg X.base CX k g fd ps sp) (rm : Room k X.A) (gd : X.A.guards = some []) (hb : Binds X.K fd ps []) (hx : Passes CX X E) : OpR X (binaryOp op) (rBackI C sp E) := by
  intro pins s σ H x y v u Q I rx ry h
  obtain ⟨a, dx, fs, i, rfl, ea, rfl, q⟩ := h
  obtain ⟨t, rfl⟩ := rx
  obtain rfl : u = Value.ref a := ry
  obtain ⟨mA, J, _⟩ := ins_get I.hok ea
  obtain ⟨od, J, _⟩ := J.look
  have r2 : Vals [V.ref a, .int i] [Value.ref a, .int i t] := .cons rfl (.cons ⟨t, rfl⟩ .nil)
  have bt := bind_pos (dvs := []) (vs := [V.ref a, .int i]) F hb .nil I.kIn r2 q
  refine back_side I.kIn J O.first O.own O.back O.fn O.sub O.fills O.nay ?_
  refine wpAny_mono (run_g (us := [.ref a, .int i t]) F rm gd hx I bt r2 q) (fun v s' hv => ?_) fun _ _ z => z
  have rv : ∃ z, RelV z v := let ⟨z, _, _, rz, _⟩ := hv; ⟨z, rz⟩
  exact rv.elim fun z rz => SlX.cmpback rz hv
theorem op_inI (O : InAt X.K C f op) (F : Gd X.prog X.w X.K X.mg X.base CX k f fd ps sp) (rm : Room k X.A) (gd : X.A.guards = some []) (hb : Binds X.K fd ps []) (hx : Passes CX X E) : OpR X (inplaceOp op) (rOwnI C sp E) := by
  intro pins s σ H x y v u Q I rx ry h
  obtain ⟨a, dx, fs, i, rfl, ea, rfl, q⟩ := h
  obtain rfl : v = Value.ref a := rx
  obtain ⟨t, rfl⟩ := ry
  obtain ⟨mA, J, _⟩ := ins_get I.hok ea
  obtain ⟨od, J, _⟩ := J.look
  obtain ⟨rc, hr, hp⟩ := O.refl
  obtain ⟨ro, h2⟩ := O.int2
  obtain ⟨cd, hc, hn⟩ := O.none_
  have r2 : Vals [V.ref a, .int i] [Value.ref a, .int i t] := .cons rfl (.cons ⟨t, rfl⟩ .nil)
  have bt := bind_pos (dvs := []) (vs := [V.ref a, .int i]) F hb .nil I.kIn r2 q
  refine inp_side I.kIn J O.first hc hn O.own O.fn hr hp O.sub O.fills h2 ?_
  refine wpAny_mono (run_g (us := [.ref a, .int i t]) F rm gd hx I bt r2 q) (fun v s' hv => ?_) fun _ _ z => z
  have rv : ∃ z, RelV z v := let ⟨z, _, _, rz, _⟩ := hv; ⟨z, rz⟩
  exact rv.elim fun z rz => SlX.cmpback rz hv
/-- ~o, o an own object -/
def rInvO (C : Addr) (sp : Sp) (E : XK) : V → Hp → VK → Prop := fun x H Q => ∃ (a dx : Addr) (fs : List (Str × V)), x = .ref a ∧ H a = some (.ins C dx fs) ∧ sp [.ref a] H Q E
theorem un_inv (O : PySem.W.findIn X.K (.ref C) "__invert__" = some (some (.ref f))) (fn : PySem.W.isFn X.K (.ref f) = true) (F : Gd X.prog X.w X.K X.mg X.base CX k f fd ps sp) (rm : Room k X.A) (gd : X.A.guards = some []) (hb : Binds X.K fd ps []) (hx : Passes CX X E) : UnR X (unaryOp .Invert) (rInvO C sp E) := by
  intro pins s σ H x v Q I rx h
  obtain ⟨a, dx, fs, rfl, ea, q⟩ := h
  obtain rfl : v = Value.ref a := rx
  obtain ⟨mA, J, _⟩ := ins_get I.hok ea
  obtain ⟨od, J, _⟩ := J.look
  obtain ⟨m, fr⟩ := I.fr
  have r2 : Vals [V.ref a] [Value.ref a] := .cons rfl .nil
  have bt := bind_pos (dvs := []) (vs := [V.ref a]) F hb .nil I.kIn r2 q
  exact PySem.W.ksp_inv fr I.ok.mod.kin J O fn (wpAny_mono (run_g (us := [.ref a]) F rm gd hx I bt r2 q) (fun v s' hv => hv) fun _ _ z => z)
theorem w_backO {a dx : Addr} {fs : List (Str × V)} {i : Int} {H : Hp} {Q : VK} (h : H a = some (.ins C dx fs)) (q : sp [.ref a, .int i] H Q E) : rBackI C sp E (.int i) (.ref a) H Q := ⟨a, dx, fs, i, rfl, h, rfl, q⟩
theorem w_invO {a dx : Addr} {fs : List (Str × V)} {H : Hp} {Q : VK} (h : H a = some (.ins C dx fs)) (q : sp [.ref a] H Q E) : rInvO C sp E (.ref a) H Q := ⟨a, dx, fs, rfl, h, q⟩
end
end KG

set_option Elab.async false
set_option linter.all false
set_option maxRecDepth 100000
set_option maxHeartbeats 1000000
/-! KQ: properties and classmethods whose defs are known where nothing is being shown. -/
namespace KG
open PySem PySem.Spec PySem.Calls PyProof.Rows L2
section
variable {X : Cx} {CX : CXT} {k : Nat} {C p g : Addr} {mc : Value} {fd : FuncData} {ps : List Str} {sp : Sp} {E : XK} {o e : Expr} {es : List Expr} {m : Str} {pos apos : Pos} {ta : TE} {t : TA}
/-- o.m, a property -/
theorem pe_gprop (he : PE X o ta) (c : Cls X.K C) (P : PropOf X.K C m p g) (F : Gd X.prog X.w X.K X.mg X.base CX k g fd ps sp) (rm : Room (k + 1) X.A) (gd : X.A.guards = some []) (hb : Binds X.K fd ps []) (hx : Passes CX X.nox E)
    (ab : attributeBase o m X.env (eval o X.env) = eval o X.env := by rfl) : PE X (.Attribute o m pos) (tProp C sp [] E ta) := by
  refine ⟨fun pins s σ H Q I z => attr_of ab (thn (he.run pins s σ H _ I z) fun u s1 z1 => ?_)⟩
  obtain ⟨_, H1, J, ru, a, dx, fs, rfl, ea, q⟩ := z1
  obtain rfl : u = Value.ref a := ru
  obtain ⟨mA, O, _⟩ := ins_get J.hok ea
  obtain ⟨od, O, _⟩ := O.look
  obtain ⟨tail, isP⟩ := P.rec_
  have isC : (PySem.W.clsIn X.K C).isSome = true := let ⟨_, w, _⟩ := PySem.W.any_some c.hd; w ▸ rfl
  have J1 := J.tok (s1.toks + 1)
  have pg := PySem.W.plainGet_of (c.get m)
  refine PySem.W.get_bind J.kIn O pg.1 (PySem.W.findObj_data isC P.at_ P.get P.tak) pg.2 (wpAny_call (PySem.W.prop_get (s := { s1 with toks := s1.toks + 1 }) J.kIn isP ?_))
  have r1 : Vals [V.ref a] [Value.ref a] := .cons rfl .nil
  have bt := bind_pos (dvs := []) (vs := [V.ref a]) F hb .nil J1.kIn r1 q
  refine codeAny_mono (F.go X.A.in1 X.stack { s1 with toks := s1.toks + 1 } H1 ⟨[.ref a], []⟩ _ _ Q E rm.in1 gd J1.env0.in1 bt r1 q) fun out s2 z2 => ?_
  match out, z2 with
  | .error er, z2 => exact (hx pins σ H1 { s1 with toks := s1.toks + 1 } er s2 (J1.wish _) z2).elim
  | .ok (.ret u), z2 =>
    obtain ⟨v, H2, J2, rv, q2⟩ := J1.after z2
    show wpAny _ _ (handedOut u) _ _ _
    rw [PySem.W.handedOut_of (handed_of rv)]
    exact wpAny_pure ⟨v, H2, J2, rv, q2⟩
/-- o.m(e, ..), o the class, m a classmethod -/
theorem pe_gcm {pl : Sem Bool} (he : PE X o ta) (r : ClX.CRead X.K C mc) (c : ClX.CMet X.K C mc m p g) (F : Gd X.prog X.w X.K X.mg X.base CX k g fd ps sp) (rm : Room k X.A) (gd : X.A.guards = some []) (hb : Binds X.K fd ps []) (hx : Passes CX X E) (ha : PA X (e :: es) t)
    (hst : starEach (e :: es) X.env = (false, eval e X.env) :: starEach es X.env := by rfl) (hpl : (backTo pos (starEach es X.env)).any (·.1) = false := by rfl)
    (ht : eval (.Call (.Attribute o m apos) (e :: es) [] pos) X.env = (do
      let w ← eval o X.env
      standAt apos.atName
      let (g, a) ← holding [w] (getMethod w m pl)
      callWith pos g a (backTo pos (starEach (e :: es) X.env)) (backToKw pos (keywordEach [] X.env))) := by rfl) :
    PE X (.Call (.Attribute o m apos) (e :: es) [] pos) (ClX.tCMeth C sp E ta t) := by
  refine ⟨fun pins s σ H Q I z => PySem.W.methodCall_KW (pl := pl) (thn (he.run pins s σ H _ I z) fun u s1 z1 => ?_) ht⟩
  obtain ⟨_, H1, J, ru, rfl, q⟩ := z1
  obtain rfl : u = Value.ref C := ru
  refine ClX.getmethcm_ok J r c fun s2 J2 => ClX.callwith_cm J2 (ClX.base_none J (Nat.le_refl _)) c.fi (thn (ha.run pos _ s2 σ H1 _ J2 q) fun us s3 z3 => ?_) hst hpl
  obtain ⟨vs, H2, J3, rv, q2⟩ := z3
  have r1 : Vals (V.ref C :: vs) (Value.ref C :: us) := .cons rfl rv
  have bt := bind_pos (dvs := []) (vs := V.ref C :: vs) F hb .nil J3.kIn r1 (by rw [List.append_nil]; exact q2)
  refine ⟨⟨ClX.pin_at J3, J3.kIn⟩, ?_⟩
  have run : wpAny (model X.prog X.w) X.A (call (.ref s1.heap.objs.size) us) (EP X ((s1.heap.objs.size, PySem.W.methodObj (.ref g) (.ref C)) :: pins) σ Q) X.xe s3 := by
    refine wpAny_call (PySem.W.method_call (ClX.pin_at J3) (codeAny_mono (F.go X.A X.stack s3 H2 ⟨.ref C :: us, []⟩ _ _ _ E rm gd J3.env0 bt (by rw [List.append_nil]; exact r1) q2) fun out s4 z4 => ?_))
    match out, z4 with
    | .error er, z4 => exact hx _ σ H2 s3 er s4 J3 z4
    | .ok (.ret v), z4 => exact J3.after z4
  exact thn run fun _ _ y => ClX.unpinE y
/-- x(e, ..), x a place that holds the class -/
def tMakeV (C : Addr) (sp : Sp) (dvs : List V) (E : XK) (n : Nat) (ta : TA) : TE := fun σ H Q => σ[n]? = some (some (.ref C)) ∧ ta σ H fun vs H1 => Make C sp (fun z => z :: (vs ++ dvs)) E H1 Q
theorem pe_gmakeV {f : Addr} {x : Str} {n : Nat} {ds : List Value} {dvs : List V} (M : Mk X.K C f) (F : Gd X.prog X.w X.K X.mg X.base CX k f fd ps sp) (rm : Room (k + 1) X.A) (gd : X.A.guards = some []) (hv : PE X (.Name x apos) (tVar n)) (hb : Binds X.K fd ps ds) (hd : Vals dvs ds) (hx : Passes CX X E) (ha : PA X (e :: es) t)
    (hst : starEach (e :: es) X.env = (false, eval e X.env) :: starEach es X.env := by rfl) (hpl : (backTo pos (starEach es X.env)).any (·.1) = false := by rfl) : PE X (.Call (.Name x apos) (e :: es) [] pos) (tMakeV C sp dvs E n t) := by
  refine ⟨fun pins s σ H Q I z => ?_⟩
  obtain ⟨ec, q⟩ := z
  refine wpAny_Call_Name_kw (thn (hv.run pins s σ H (fun v H' => v = .ref C ∧ t σ H' fun vs H1 => Make C sp (fun z => z :: (vs ++ dvs)) E H1 Q) I ⟨_, ec, rfl, q⟩) fun u s1 z1 => ?_)
  obtain ⟨_, H1, J, ru, rfl, q1⟩ := z1
  obtain rfl : u = Value.ref C := ru
  refine PySem.W.callWith_K (h₀ := X.base) I.ok.mod.kin M.kp (thn (ha.run pos pins s1 σ H1 _ J q1) fun us s2 z2 => ?_) hst hpl
  obtain ⟨vs, H2, J2, rv, q2⟩ := z2
  have all : ∀ y : Addr, Vals (V.ref y :: vs ++ dvs) (Value.ref y :: us ++ ds) := fun y => .cons rfl (rv.append hd)
  have many : ∀ y : Addr, (Value.ref y :: us ++ ds).length = ps.length := fun y => by
    rw [← (all y).length, ← F.len _ _ _ _ (q2 (s2.heap.objs.size + 1) s2.heap.objs.size (J2.hok.fresh (Nat.le_succ _)) (J2.hok.fresh (Nat.le_refl _)) (Nat.ne_of_lt (Nat.lt_succ_self _)))]
    rfl
  exact ⟨J2.kIn, run_gmake (fun y => y :: us ++ ds) (fun y => y :: vs ++ dvs) M F rm gd (fun s y KX => hb s (.ref y :: us) KX (many y)) all hx J2 q2⟩
end
end KG

set_option Elab.async false
set_option linter.all false
set_option maxRecDepth 100000
set_option maxHeartbeats 1000000
/-! KU: methods whose text says super().m(..). -/
namespace KG
open PySem PySem.Spec PySem.Calls PyProof.Rows L2
open PySem.W (ksFn ksEnv)

/-- the scope of a method that says super() -/
structure ScS (N ps : List Str) (sc : Scope) : Prop where
  kind : sc.kind = .function
  co : sc.isCoroutine = false
  gen : sc.isGenerator = false
  pre : N.take ps.length = ps
  nd : ps.Nodup
  par : ∀ x ∈ ps, sc.names.lookup x = some .local
  nocell : ∀ y ∈ sc.names, y.2 ≠ .cell
  free : ∀ y ∈ sc.names, y.2 = .free → y.1 = ("__class__" : Str)
  sup : sc.names.lookup ("super" : Str) = some .globalImplicit
  cl : sc.names.lookup ("__class__" : Str) = some .free

/-- what is written of such a method: where its code lies, its class -/
structure SupF (prog : Program) (K : PySem.W.Frag) (f D : Addr) (cda cc : Addr) (fd : FuncData) : Prop where
  lkF : ∃ oc od osl, K.lookup f = some ⟨oc, od, .func fd, osl⟩
  lkC : ∃ (ccl : Value) (cdd : Option Addr) (vs : Array Value) (ccs : Array (Option Value)) (file : Str) (tf : Tok), K.lookup cda = some ⟨ccl, cdd, .fields vs, ccs⟩ ∧ vs[2]? = some (.str file tf) ∧ ((prog.main.file : Str) == file) = true
  lkCell : ∃ (cl : Value) (cld : Option Addr) (csl : Array (Option Value)), K.lookup cc = some ⟨cl, cld, .cell (some (.ref D)), csl⟩
  cls : ∃ cd, PySem.W.clsIn K D = some cd
  opq : PySem.W.nsIn K cStatics "thirdparty.any" = some none
  nosup : PySem.W.nsIn K mainGlobals "super" = some none
  top : (prog.main.scope.names.lookup ("super" : Str)).isSome = false
structure FunS (prog : Program) (K : PySem.W.Frag) (x qual : Str) (st : Stmt) (f D : Addr) (fd : FuncData) : Prop where
  ex : ∃ (dV kV doc pm ct : Value) (an : Option Addr) (cda cc : Addr), fd = ksFn x qual (defArgs st) (defBody st) (defScope st) dV kV doc pm an (.ref cda) ct cc ∧ PySem.W.codeIn K (.ref cda) qual = true ∧ SupF prog K f D cda cc fd
  kp : PySem.W.keepIn K (.ref f) = true

/-- the frame of such a method -/
def cxS (P : Program) (w : World) (K : PySem.W.Frag) (mg : Str → Option Value) (base : Heap) (N : List Str) (qual : Str) (scope : Scope) (f cda cc : Addr) (A : Around) (outer : List Env) (s : Shared) (H : Hp) (E : XK) : Cx :=
  { prog := P, w := w, K := K, mg := mg, base := base, A := A.deeper (ksEnv qual scope s.heap.objs.size f (.ref cda) cc), N := N, s_0 := s, H_0 := H,
    env := ksEnv qual scope s.heap.objs.size f (.ref cda) cc, outer := outer, stack := ksEnv qual scope s.heap.objs.size f (.ref cda) cc :: outer, ex := [], fn := fun x => !(x == ("__class__" : Str)), calm := true, pn := [],
    xe := fun e s' => wpAny (model P w) (A.deeper (ksEnv qual scope s.heap.objs.size f (.ref cda) cc)) (leaving (ksEnv qual scope s.heap.objs.size f (.ref cda) cc) e) (fun _ s'' => L2.CX P w outer H s E e s'') (fun e' s'' => L2.CX P w outer H s E e' s'') s' }
section
variable {P : Program} {w : World} {K : PySem.W.Frag} {mg : Str → Option Value} {base : Heap} {N ps : List Str} {qual : Str} {sc : Scope} {f cda cc D : Addr} {A : Around} {outer : List Env} {s s1 : Shared} {H : Hp} {E : XK}
theorem takes_S : Takes (cxS P w K mg base N qual sc f cda cc A outer s H E) (fun cls d _ H => E cls d H) := takes_of rfl rfl rfl rfl
theorem pass_S : Passes (L2.CX P w) (cxS P w K mg base N qual sc f cda cc A outer s H E) E := passes_call takes_S fun _ _ _ _ h => h
theorem own_S : PassesOwn (model P w) (cxS P w K mg base N qual sc f cda cc A outer s H E).A (cxS P w K mg base N qual sc f cda cc A outer s H E).env (cxS P w K mg base N qual sc f cda cc A outer s H E).xe := passes_of rfl

theorem paired_get {R : V → Value → Prop} : ∀ {vs : List V} {us : List Value} {i : Nat} {v : V}, Paired R vs us → vs[i]? = some v → ∃ u, us[i]? = some u ∧ R v u
  | _ :: _, _ :: _, 0, _, .cons a _, e => by cases e; exact ⟨_, rfl, a⟩
  | _ :: _, _ :: _, i + 1, _, .cons _ b, e => paired_get (i := i) b e
theorem lk_nd {x : Str} {u : Value} : ∀ {l : List (Str × Value)}, (l.map (·.1)).Nodup → (x, u) ∈ l → l.lookup x = some u
  | (y, v) :: t, nd, h => by
    rcases List.mem_cons.mp h with e | h
    · cases e
      simp [List.lookup]
    · have nd' : y ∉ t.map (·.1) ∧ (t.map (·.1)).Nodup := List.nodup_cons.mp nd
      have ne : x ≠ y := fun z => nd'.1 (z ▸ List.mem_map_of_mem (f := (·.1)) h)
      rw [List.lookup, beq_eq_false_iff_ne.mpr ne]
      exact lk_nd nd'.2 h
theorem lk_mem {k : NameKind} {x : Str} : ∀ {l : List (Str × NameKind)}, l.lookup x = some k → (x, k) ∈ l
  | (y, v) :: t, h => by
    by_cases e : x = y
    · subst e
      simp [List.lookup] at h
      rw [h]
      exact List.mem_cons_self
    · rw [List.lookup, beq_eq_false_iff_ne.mpr e] at h
      exact List.mem_cons_of_mem _ (lk_mem h)
theorem zip_get : ∀ {ps : List Str} {us : List Value} {i : Nat} {x : Str} {u : Value}, ps[i]? = some x → us[i]? = some u → (x, u) ∈ ps.zip us
  | _ :: _, _ :: _, 0, _, _, h, h' => by cases h; cases h'; exact List.mem_cons_self
  | _ :: _, _ :: _, i + 1, _, _, h, h' => List.mem_cons_of_mem _ (zip_get (i := i) h h')

theorem invS_start {us : List Value} {vs : List V} (S : ScS N ps sc) (hd : A.handled = none) (e0 : Env0 P w K mg base A outer s H) (len : vs.length = ps.length) (rv : Vals vs us)
    (hcc : ∃ (cl : Value) (cld : Option Addr) (csl : Array (Option Value)), K.lookup cc = some ⟨cl, cld, .cell (some (.ref D)), csl⟩)
    (ns : s1.heap.Ns s.heap.objs.size fun y => (ps.zip us).reverse.lookup y) (kp : ∀ b o, s.heap.get? b = some o → s1.heap.get? b = some o) (hos : s1.os = s.os) (hg : s1.gens = s.gens) :
    Inv (cxS P w K mg base N qual sc f cda cc A outer s H E) [] (start N vs) H s1 := by
  obtain ⟨cl, cld, csl, hcc⟩ := hcc
  have kb := e0.mod.kin _ _ hcc
  have fc : ∀ {x : Str} {c : Addr}, List.lookup x [(("__class__" : Str), cc)] = some c → x = "__class__" ∧ c = cc := fun {x c} h => by
    by_cases e : x = "__class__"
    · subst e
      simp [List.lookup] at h
      exact ⟨rfl, h.symm⟩
    · rw [List.lookup, beq_eq_false_iff_ne.mpr e] at h
      cases h
  refine ⟨?_, hos, by rw [hg]; exact e0.bare, Un.kept kp, ⟨_, ns, ?_⟩, ?_, e0.hok.fresh (Nat.le_refl _), ?_, (fun _ h => nomatch h), e0.hok.kept kp, ?_⟩
  · exact {
      mod := e0.mod
      kind := S.kind
      glob := rfl
      blt := rfl
      above := Nat.le_refl _
      inj := fun x y c h1 h2 => (fc h1).1.trans (fc h2).1.symm
      has := fun x h => by
        rcases h with h | h
        · exact absurd rfl (S.nocell (x, .cell) (lk_mem h))
        · rw [show x = _ from S.free _ (lk_mem h) rfl]
          exact ⟨cc, by simp [cxS, ksEnv, PySem.W.envX, List.lookup]⟩
      cab := fun x c h1 h2 => by
        rw [(fc h2).1] at h1
        cases h1
      hd := fun _ => hd
      frames := by
        show Option.map _ A.frames = _
        rw [e0.frames]
        rfl
      stk := .inr ⟨rfl, rfl⟩
      exf := fun _ h => nomatch h
      bs := e0.bs
      bsz := e0.bsz
      noex := fun _ _ _ h => nomatch h
      exfs := fun _ h => nomatch h
      funs := e0.funs
      frf := e0.frf }
  · intro i x v hx hs vis
    have hx : N[i]? = some x := hx
    have hv : vs[i]? = some v := by
      unfold L2.start at hs
      by_cases lt : i < vs.length
      · rw [List.getElem?_append_left (by simpa using lt), List.getElem?_map] at hs
        obtain ⟨v', h1, h2⟩ := Option.map_eq_some_iff.mp hs
        cases h2
        exact h1
      · rw [List.getElem?_append_right (by simpa using lt), List.getElem?_replicate] at hs
        split at hs <;> cases hs
    obtain ⟨u, hu, ru⟩ := paired_get rv hv
    have lt : i < ps.length := len ▸ (List.getElem?_eq_some_iff.mp hv).1
    have hp : ps[i]? = some x := by
      rw [← S.pre, List.getElem?_take_of_lt lt]
      exact hx
    have lenU : ps.length ≤ us.length := by rw [← len, rv.length]; exact Nat.le_refl _
    refine ⟨u, ru, .inl ⟨S.par x (List.mem_of_getElem? hp), ?_⟩⟩
    refine lk_nd ?_ (List.mem_reverse.mpr (zip_get hp hu))
    rw [List.map_reverse]
    refine List.pairwise_reverse.mpr ?_
    show ((ps.zip us).map Prod.fst).Pairwise _
    rw [List.map_fst_zip lenU]
    exact S.nd.imp Ne.symm
  · intro x c h
    rw [(fc h).2]
    exact ⟨_, _, kp _ _ (e0.bs _ _ kb).1, rfl⟩
  · intro x c h
    rw [(fc h).2]
    exact (e0.bs _ _ kb).2
  · show (List.map some vs ++ List.replicate (N.length - vs.length) none).length = N.length
    have : ps.length ≤ N.length := by
      rw [← S.pre, List.length_take]
      exact Nat.min_le_right _ _
    simp
    omega

/-- such a method by its body -/
theorem gdS_of {k : Nat} {x : Str} {st : Stmt} {fd : FuncData} {sp : Sp} (F : FunS P K x qual st f D fd) (S : ScS N ps (defScope st)) (len : ∀ vs H Q E, sp vs H Q E → vs.length = ps.length)
    (inner : ∀ (cda cc : Addr) (A : Around) (outer : List Env) (s s1 : Shared) (H : Hp) (vs : List V) (Q : VK) (E : XK),
      Room k (cxS P w K mg base N qual (defScope st) f cda cc A outer s H E).A → (cxS P w K mg base N qual (defScope st) f cda cc A outer s H E).A.guards = some [] → sp vs H Q E →
      (∃ (dV kV doc pm ct : Value) (an : Option Addr), SupF P K f D cda cc (ksFn x qual (defArgs st) (defBody st) (defScope st) dV kV doc pm an (.ref cda) ct cc)) →
      Inv (cxS P w K mg base N qual (defScope st) f cda cc A outer s H E) [] (start N vs) H s1 →
      PySem.wpAt (model P w) (cxS P w K mg base N qual (defScope st) f cda cc A outer s H E).A (.func (defBody st) (cxS P w K mg base N qual (defScope st) f cda cc A outer s H E).env) (execs (defBody st) (cxS P w K mg base N qual (defScope st) f cda cc A outer s H E).env)
        (SP (cxS P w K mg base N qual (defScope st) f cda cc A outer s H E) [] { nx := fun _ H' => Q .non H', rt := Q }) (cxS P w K mg base N qual (defScope st) f cda cc A outer s H E).xe s1) :
    Gd P w K mg base (L2.CX P w) (k + 1) f fd ps sp := by
  obtain ⟨dV, kV, doc, pm, ct, an, cda, cc, rfl, code, SF⟩ := F.ex
  refine ⟨len, fun A outer s H args us vs Q E rm gd e0 bt rv q0 => ?_⟩
  have llen := len _ _ _ _ q0
  have kin : K.In s.heap := e0.mod.kin.keeps fun b o e => (e0.bs b o e).1
  have nolim : s.heap.NoLimit := e0.mod.nolimit.keeps fun b o e => (e0.bs b o e).1
  obtain ⟨oc, od, osl, lkF⟩ := SF.lkF
  refine ks_codeAny_call_defAt (body := defBody st) (binds := ps.zip us) rm.depth (kin _ _ lkF) rfl nolim (PySem.W.codeRec_of kin code) rfl bt S.nocell (fun y hy => S.par _ (List.of_mem_zip hy).1) (fun h1 ns1 kp1 => ?_) S.co S.gen S.kind
  have I := invS_start (E := E) (cda := cda) (cc := cc) (f := f) (qual := qual) (s1 := ⟨h1, s.gens, s.drawn, s.toks + (ps.zip us).length, s.os⟩) S rm.hd e0 llen rv SF.lkCell ns1 kp1 rfl rfl
  refine ks_wpAt_mono (inner cda cc A outer s _ H vs Q E (rm.deeper _) gd q0 ⟨dV, kV, doc, pm, ct, an, SF⟩ I) (fun fl s' hs => ?_) fun e s' hs => hs
  have done : ∀ {σ' : L2.St} {H' : Hp} {v : V} {u : Value}, Inv (cxS P w K mg base N qual (defScope st) f cda cc A outer s H E) [] σ' H' s' → RelV v u → Q v H' → CE outer P w H s Q u s' :=
    fun {σ' H' v u} J r q => ⟨v, H', J.os, J.bare, J.base, J.hok, r, q⟩
  cases fl with
  | ret u =>
    obtain ⟨v, σ', H', J, r, q⟩ := hs
    exact done J r q
  | next =>
    obtain ⟨σ', H', J, q⟩ := hs
    exact done (v := V.non) (u := Value.none) J rfl q
  | brk => exact hs.elim fun _ h => h.elim fun _ h => False.elim h.2
  | cont => exact hs.elim fun _ h => h.elim fun _ h => False.elim h.2

/-- where super() of an object of class C, asked in a method of class D, finds m -/
structure UpAt (K : PySem.W.Frag) (C D : Addr) (m : Str) (g : Addr) : Prop where
  isub : PySem.W.mroIn K C (.ref D) = some true
  up : PySem.W.ks_superIn K C D m = some (some (.ref g))
  fn : PySem.W.isFn K (.ref g) = true
  fi : PySem.W.fnIn K g = true

/-- super().m, up to the bound method -/
theorem sup_get {x : Str} {st : Stmt} {dV kV doc pm ct : Value} {an : Option Addr} {s0 : Shared} {H0 : Hp} {pins : List (Addr × Obj)} {σ : L2.St} {H1 : Hp} {s : Shared} {C dx a g : Addr} {fs : List (Str × V)} {m : Str} {p0 p1 p2 p3 : Pos} {es : List Expr} {pl : Sem Bool} {EX : Value → Shared → Prop} {body : List Stmt} {R : Value → Shared → Prop}
    (S : ScS N ps sc) (SF : SupF P K f D cda cc (ksFn x qual (defArgs st) (defBody st) sc dV kV doc pm an (.ref cda) ct cc)) (hpar : ((defArgs st).posonlyargs ++ (defArgs st).args).head?.map (·.arg) = some ("self" : Str))
    (hN : N[0]? = some ("self" : Str)) (hself : sc.names.lookup ("self" : Str) = some .local) (hm : (m == ("__class__" : Str)) = false)
    (hev : eval (.Call (.Attribute (.Call (.Name "super" p0) [] [] p1) m p2) es [] p3) (cxS P w K mg base N qual sc f cda cc A outer s0 H0 E).env = (do
      let ov ← attributeBase (.Call (.Name "super" p0) [] [] p1) m (cxS P w K mg base N qual sc f cda cc A outer s0 H0 E).env (eval (.Call (.Name "super" p0) [] [] p1) (cxS P w K mg base N qual sc f cda cc A outer s0 H0 E).env)
      standAt p2.atName
      let (fv, first) ← holding [ov] (getMethod ov m pl)
      callWith p3 fv first (backTo p3 (starEach es (cxS P w K mg base N qual sc f cda cc A outer s0 H0 E).env)) []))
    (I : Inv (cxS P w K mg base N qual sc f cda cc A outer s0 H0 E) pins σ H1 s) (hσ : σ[0]? = some (some (.ref a))) (ha : H1 a = some (.ins C dx fs)) (U : UpAt K C D m g)
    (nx : ∀ (q : Addr) (s2 : Shared), base.get? q = none → Inv (cxS P w K mg base N qual sc f cda cc A outer s0 H0 E) ((q, PySem.W.methodObj (.ref g) (.ref a)) :: pins) σ H1 s2 →
      wpAny (model P w) (cxS P w K mg base N qual sc f cda cc A outer s0 H0 E).A (callWith p3 (.ref q) [] (backTo p3 (starEach es (cxS P w K mg base N qual sc f cda cc A outer s0 H0 E).env)) []) R EX s2) :
    PySem.wpAt (model P w) (cxS P w K mg base N qual sc f cda cc A outer s0 H0 E).A (.func body (cxS P w K mg base N qual sc f cda cc A outer s0 H0 E).env)
      (eval (.Call (.Attribute (.Call (.Name "super" p0) [] [] p1) m p2) es [] p3) (cxS P w K mg base N qual sc f cda cc A outer s0 H0 E).env) R EX s := by
  obtain ⟨oc, od, osl, lkF⟩ := SF.lkF
  obtain ⟨ccl, cdd, vs, ccs, file, tf, lkC, hvs, hfile⟩ := SF.lkC
  obtain ⟨cl, cld, csl, lkCell⟩ := SF.lkCell
  obtain ⟨cd, hcd⟩ := SF.cls
  have kin : K.In s.heap := I.kIn
  have mod := I.mod
  obtain ⟨mb, nsb0, mbb⟩ := mod.blt
  have nsm := mod.glob.keeps I.bk
  have nsb := nsb0.keeps I.bk
  obtain ⟨ar, har, harg⟩ : ∃ ar, ((defArgs st).posonlyargs ++ (defArgs st).args).head? = some ar ∧ ar.arg = ("self" : Str) := by
    cases z : ((defArgs st).posonlyargs ++ (defArgs st).args).head? with
    | none => rw [z] at hpar; cases hpar
    | some ar => rw [z] at hpar; exact ⟨ar, rfl, Option.some.inj hpar⟩
  obtain ⟨oD, hD, hDd⟩ : ∃ oD, K.lookup D = some oD ∧ oD.data = .cls cd := by
    unfold PySem.W.clsIn at hcd
    split at hcd
    · rename_i e
      cases hcd
      exact ⟨_, e, rfl⟩
    · cases hcd
  obtain ⟨mA, O, _⟩ := ins_get I.hok ha
  obtain ⟨odx, O, _⟩ := O.look
  refine ks_wpAt_MethodCall (ks_wpAt_super_base S.sup S.cl hm rfl (kin _ _ lkF) rfl har rfl (kin _ _ lkC) rfl hvs hfile SF.top ?_) hev
  refine PySem.W.ks_loadName_global S.kind S.sup (loadGlobal_builtin nsm (PySem.W.mg_none_of kin nsm SF.nosup) nsb ((mbb _ (by decide +kernel)).trans (by decide +kernel)) ⟨rfl, ?_⟩)
  refine wpAny_loadName_free S.kind S.cl rfl ⟨_, kin _ _ lkCell, rfl⟩ ?_
  rw [harg]
  obtain ⟨mm, nsL, hl⟩ := I.loc
  obtain ⟨u, ru, lk⟩ := hl 0 "self" (.ref a) hN hσ (.inl hself)
  obtain rfl : u = Value.ref a := ru
  have lk : mm "self" = some (.ref a) := by
    rcases lk with lk | ⟨lk, _⟩
    · exact lk.2
    · exfalso
      have hs : Env.kindOf (cxS P w K mg base N qual sc f cda cc A outer s0 H0 E).env "self" = some .local := hself
      rw [hs] at lk
      rcases lk with lk | lk <;> cases lk
  refine wpAny_loadName_local S.kind hself nsL lk ?_
  have hD1 := kin _ _ hD
  refine ks_wpAny_isType_cls hD1 hDd ⟨rfl, ?_⟩
  refine ks_wpAny_call_super hD1 hDd O.at_ O.cls (fun c z => by have := O.no; unfold PySem.W.notCls at this; rw [z] at this; cases this) (PySem.W.looks_mroIn kin U.isub) (fun h2 eso kp2 => ?_)
  have J2 := I.kept (t' := s.toks) kp2
  have kin2 : K.In h2 := kin.keeps kp2
  have sup := U.up
  unfold PySem.W.ks_superIn at sup
  obtain ⟨cdC, hcl, sup⟩ := Option.bind_eq_some_iff.mp sup
  obtain ⟨og, hog, hgc⟩ : ∃ og, K.lookup g = some og ∧ og.cls = .type "function" := by
    have hg : (Option.map (fun x => Obj.cls x) (K.lookup g) == some (.type "function")) = true := U.fn
    cases z : K.lookup g with
    | none => rw [z] at hg; cases hg
    | some og =>
      rw [z] at hg
      exact ⟨og, rfl, by simpa using hg⟩
  have nC : a ≠ C := fun z => by
    have hC : ∃ o, K.lookup C = some o := by
      unfold PySem.W.clsIn at hcl
      split at hcl
      · exact ⟨_, by assumption⟩
      · cases hcl
    obtain ⟨o, hC⟩ := hC
    have := (I.bs _ _ (I.ok.mod.kin _ _ hC)).2
    rw [← z, ha] at this
    cases this
  refine ks_wpAny_getMethod_super eso (PySem.W.looks_opaque kin2 SF.opq) (l₀ := cdC.mro) (fun A Q E s k q => wpAny_bind ((PySem.W.looks_clsIn kin2 hcl) A _ E s k (wpAny_pure q))) rfl kin2 sup (kin2 _ _ hog) hgc nC hm ?_
  exact nx _ _ (ClX.base_none J2 (Nat.le_refl _)) (ClX.met_new (g := g) (C := a) J2)

section
variable {x : Str} {st : Stmt} {dV kV doc pm ct : Value} {an : Option Addr} {s0 : Shared} {H0 : Hp} {pins : List (Addr × Obj)} {σ : L2.St} {H1 : Hp} {s : Shared} {C dx a g : Addr} {fs : List (Str × V)} {m : Str} {p0 p1 p2 p3 : Pos} {es : List Expr} {pl : Sem Bool} {body : List Stmt} {k : Nat} {fdg : FuncData} {psg : List Str} {sp : Sp} {Q : VK} {e : Expr} {t : TA}
/-- super().m() -/
theorem sup_run0 
    (S : ScS N ps sc) (SF : SupF P K f D cda cc (ksFn x qual (defArgs st) (defBody st) sc dV kV doc pm an (.ref cda) ct cc)) (hpar : ((defArgs st).posonlyargs ++ (defArgs st).args).head?.map (·.arg) = some ("self" : Str))
    (hN : N[0]? = some ("self" : Str)) (hself : sc.names.lookup ("self" : Str) = some .local) (hm : (m == ("__class__" : Str)) = false)
    (I : Inv (cxS P w K mg base N qual sc f cda cc A outer s0 H0 E) pins σ H1 s) (hσ : σ[0]? = some (some (.ref a))) (ha : H1 a = some (.ins C dx fs)) (U : UpAt K C D m g)
    (G : Gd P w K mg base (L2.CX P w) k g fdg psg sp) (hb : Binds K fdg psg []) (rm : Room k (cxS P w K mg base N qual sc f cda cc A outer s0 H0 E).A) (gd : (cxS P w K mg base N qual sc f cda cc A outer s0 H0 E).A.guards = some [])
    (q : sp [.ref a] H1 Q E)
    (hev : eval (.Call (.Attribute (.Call (.Name "super" p0) [] [] p1) m p2) [] [] p3) (cxS P w K mg base N qual sc f cda cc A outer s0 H0 E).env = (do
      let ov ← attributeBase (.Call (.Name "super" p0) [] [] p1) m (cxS P w K mg base N qual sc f cda cc A outer s0 H0 E).env (eval (.Call (.Name "super" p0) [] [] p1) (cxS P w K mg base N qual sc f cda cc A outer s0 H0 E).env)
      standAt p2.atName
      let (fv, first) ← holding [ov] (getMethod ov m pl)
      callWith p3 fv first (backTo p3 (starEach [] (cxS P w K mg base N qual sc f cda cc A outer s0 H0 E).env)) []) := by rfl) :
    PySem.wpAt (model P w) (cxS P w K mg base N qual sc f cda cc A outer s0 H0 E).A (.func body (cxS P w K mg base N qual sc f cda cc A outer s0 H0 E).env)
      (eval (.Call (.Attribute (.Call (.Name "super" p0) [] [] p1) m p2) [] [] p3) (cxS P w K mg base N qual sc f cda cc A outer s0 H0 E).env) (EP (cxS P w K mg base N qual sc f cda cc A outer s0 H0 E) pins σ Q) (cxS P w K mg base N qual sc f cda cc A outer s0 H0 E).xe s := by
  refine sup_get S SF hpar hN hself hm hev I hσ ha U fun q2 s2 bn J => PySem.W.callWith_M0 ⟨ClX.pin_at J, J.kIn⟩ U.fi ?_
  have r1 : Vals [V.ref a] [Value.ref a] := .cons rfl .nil
  have bt := bind_pos (dvs := []) (vs := [V.ref a]) G hb .nil J.kIn r1 q
  refine thn (Q := EP _ ((q2, PySem.W.methodObj (.ref g) (.ref a)) :: pins) σ Q) (wpAny_call (PySem.W.method_call (ClX.pin_at J) (codeAny_mono (G.go _ (ksEnv qual sc s0.heap.objs.size f (.ref cda) cc :: outer) s2 H1 ⟨[.ref a], []⟩ _ _ Q E rm gd J.env0 bt r1 q) fun out s4 z4 => ?_))) fun _ _ y => ClX.unpinE y
  match out, z4 with
  | .error er, z4 => exact pass_S _ σ H1 s2 er s4 J z4
  | .ok (.ret v), z4 => exact J.after z4
/-- super().m(e, ..) -/
theorem sup_run
    (S : ScS N ps sc) (SF : SupF P K f D cda cc (ksFn x qual (defArgs st) (defBody st) sc dV kV doc pm an (.ref cda) ct cc)) (hpar : ((defArgs st).posonlyargs ++ (defArgs st).args).head?.map (·.arg) = some ("self" : Str))
    (hN : N[0]? = some ("self" : Str)) (hself : sc.names.lookup ("self" : Str) = some .local) (hm : (m == ("__class__" : Str)) = false)
    (I : Inv (cxS P w K mg base N qual sc f cda cc A outer s0 H0 E) pins σ H1 s) (hσ : σ[0]? = some (some (.ref a))) (ha : H1 a = some (.ins C dx fs)) (U : UpAt K C D m g)
    (G : Gd P w K mg base (L2.CX P w) k g fdg psg sp) (hb : Binds K fdg psg []) (rm : Room k (cxS P w K mg base N qual sc f cda cc A outer s0 H0 E).A) (gd : (cxS P w K mg base N qual sc f cda cc A outer s0 H0 E).A.guards = some [])
    (hA : PA (cxS P w K mg base N qual sc f cda cc A outer s0 H0 E) (e :: es) t) (q : t σ H1 fun vs H2 => sp (.ref a :: vs) H2 Q E)
    (hst : starEach (e :: es) (cxS P w K mg base N qual sc f cda cc A outer s0 H0 E).env = (false, eval e (cxS P w K mg base N qual sc f cda cc A outer s0 H0 E).env) :: starEach es (cxS P w K mg base N qual sc f cda cc A outer s0 H0 E).env := by rfl)
    (hpl : (backTo p3 (starEach es (cxS P w K mg base N qual sc f cda cc A outer s0 H0 E).env)).any (·.1) = false := by rfl)
    (hev : eval (.Call (.Attribute (.Call (.Name "super" p0) [] [] p1) m p2) (e :: es) [] p3) (cxS P w K mg base N qual sc f cda cc A outer s0 H0 E).env = (do
      let ov ← attributeBase (.Call (.Name "super" p0) [] [] p1) m (cxS P w K mg base N qual sc f cda cc A outer s0 H0 E).env (eval (.Call (.Name "super" p0) [] [] p1) (cxS P w K mg base N qual sc f cda cc A outer s0 H0 E).env)
      standAt p2.atName
      let (fv, first) ← holding [ov] (getMethod ov m pl)
      callWith p3 fv first (backTo p3 (starEach (e :: es) (cxS P w K mg base N qual sc f cda cc A outer s0 H0 E).env)) []) := by rfl) :
    PySem.wpAt (model P w) (cxS P w K mg base N qual sc f cda cc A outer s0 H0 E).A (.func body (cxS P w K mg base N qual sc f cda cc A outer s0 H0 E).env)
      (eval (.Call (.Attribute (.Call (.Name "super" p0) [] [] p1) m p2) (e :: es) [] p3) (cxS P w K mg base N qual sc f cda cc A outer s0 H0 E).env) (EP (cxS P w K mg base N qual sc f cda cc A outer s0 H0 E) pins σ Q) (cxS P w K mg base N qual sc f cda cc A outer s0 H0 E).xe s := by
  refine sup_get S SF hpar hN hself hm hev I hσ ha U fun q2 s2 bn J => ClX.callwith_cm J bn U.fi (thn (hA.run p3 _ s2 σ H1 _ J q) fun us s3 z3 => ?_) hst hpl
  obtain ⟨vs, H2, J3, rv, q2'⟩ := z3
  have r1 : Vals (V.ref a :: vs) (Value.ref a :: us) := .cons rfl rv
  have bt := bind_pos (dvs := []) (vs := V.ref a :: vs) G hb .nil J3.kIn r1 (by rw [List.append_nil]; exact q2')
  refine ⟨⟨ClX.pin_at J3, J3.kIn⟩, ?_⟩
  refine thn (Q := EP _ ((q2, PySem.W.methodObj (.ref g) (.ref a)) :: pins) σ Q) (wpAny_call (PySem.W.method_call (ClX.pin_at J3) (codeAny_mono (G.go _ (ksEnv qual sc s0.heap.objs.size f (.ref cda) cc :: outer) s3 H2 ⟨.ref a :: us, []⟩ _ _ Q E rm gd J3.env0 bt (by rw [List.append_nil]; exact r1) q2') fun out s4 z4 => ?_))) fun _ _ y => ClX.unpinE y
  match out, z4 with
  | .error er, z4 => exact pass_S _ σ H2 s3 er s4 J3 z4
  | .ok (.ret v), z4 => exact J3.after z4
end
end
end KG

set_option Elab.async false
set_option linter.all false
set_option maxRecDepth 100000
set_option maxHeartbeats 1000000
/-! KD: methods and properties of an object whose class is known by its place in a list of classes. -/
namespace KG
open PySem PySem.Spec PySem.Calls PyProof.Rows L2
/-- each class of the list has a method m, promised sp -/
def DMeth (P : Program) (w : World) (K : PySem.W.Frag) (mg : Str → Option Value) (base : Heap) (CX : CXT) (k : Nat) (CL : List Addr) (m : Str) (ps : List Str) (sp : Nat → Sp) : Prop :=
  ∀ n C, CL[n]? = some C → ∃ f fd, Cls K C ∧ Meth K C m f ∧ Binds K fd ps [] ∧ Gd P w K mg base CX k f fd ps (sp n)
def DProp (P : Program) (w : World) (K : PySem.W.Frag) (mg : Str → Option Value) (base : Heap) (k : Nat) (CL : List Addr) (m : Str) (sp : Nat → Sp) : Prop :=
  ∀ n C, CL[n]? = some C → ∃ p g fd, Cls K C ∧ PropOf K C m p g ∧ Binds K fd ["self"] [] ∧ Gd P w K mg base CX0 k g fd ["self"] (sp n)
/-- the same with one argument by keyword -/
def DMethK (P : Program) (w : World) (K : PySem.W.Frag) (mg : Str → Option Value) (base : Heap) (CX : CXT) (k : Nat) (CL : List Addr) (m x : Str) (sp : Nat → Sp) : Prop :=
  ∀ n C, CL[n]? = some C → ∃ f fd, Cls K C ∧ Meth K C m f ∧ KBn K fd ["self", x] 1 [x] (fun us ws => us ++ ws) (fun us ws => us ++ ws) ∧ Gd P w K mg base CX k f fd ["self", x] (sp n)
def tDyn (CL : List Addr) (m : Str) (sp : Nat → Sp) (E : XK) (ta : TE) (tk : TA) : TE := fun σ H Q => ta σ H fun x H1 => ∃ a n C dx fs, x = .ref a ∧ CL[n]? = some C ∧ H1 a = some (.ins C dx fs) ∧ fs.lookup m = none ∧ tk σ H1 fun vs H2 => sp n (.ref a :: vs) H2 Q E
def tDynP (CL : List Addr) (sp : Nat → Sp) (E : XK) (ta : TE) : TE := fun σ H Q => ta σ H fun x H1 => ∃ a n C dx fs, x = .ref a ∧ CL[n]? = some C ∧ H1 a = some (.ins C dx fs) ∧ sp n [.ref a] H1 Q E
section
variable {X : Cx} {CX : CXT} {k j : Nat} {CL : List Addr} {ps : List Str} {sp : Nat → Sp} {E : XK} {m x : Str} {p pos apos : Pos} {e o : Expr} {es : List Expr} {kws : List Keyword} {ta : TE} {t tk : TA}
theorem pe_dmeth0 {pl : Sem Bool} (he : PE X o ta) (D : DMeth X.prog X.w X.K X.mg X.base CX j CL m ps sp) (rm : Room k X.A) (hk : j ≤ k) (gd : X.A.guards = some []) (hx : Passes CX X E)
    (ht : eval (.Call (.Attribute o m apos) [] [] pos) X.env = (do
      let w ← eval o X.env
      standAt apos.atName
      let (g, a) ← holding [w] (getMethod w m pl)
      callWith pos g a (backTo pos (starEach [] X.env)) (backToKw pos (keywordEach [] X.env))) := by rfl) :
    PE X (.Call (.Attribute o m apos) [] [] pos) (tDyn CL m sp E ta tNil) := by
  refine ⟨fun pins s σ H Q I h => PySem.W.methodCall_KW (pl := pl) (thn (he.run pins s σ H _ I h) fun u s1 ⟨y, H1, J, ry, a, n, C, dx, fs, ey, hC, ea, l, q⟩ => ?_) ht⟩
  subst ey
  obtain rfl : u = Value.ref a := ry
  obtain ⟨f, fd, c, hm, hb, F⟩ := D n C hC
  have r1 : Vals [V.ref a] [Value.ref a] := .cons rfl .nil
  exact getmeth_ok J ea c hm l (PySem.W.callWith_K0 (first := [.ref a]) J.kIn hm.kp (run_g (us := [.ref a]) F (rm.mono hk) gd hx J (bind_pos (dvs := []) (vs := [.ref a]) F hb .nil J.kIn r1 q) (r1.append .nil) q))
theorem pe_dmeth {pl : Sem Bool} (he : PE X o ta) (D : DMeth X.prog X.w X.K X.mg X.base CX j CL m ps sp) (rm : Room k X.A) (hk : j ≤ k) (gd : X.A.guards = some []) (hx : Passes CX X E) (ha : PA X (e :: es) t)
    (hst : starEach (e :: es) X.env = (false, eval e X.env) :: starEach es X.env := by rfl) (hpl : (backTo pos (starEach es X.env)).any (·.1) = false := by rfl)
    (ht : eval (.Call (.Attribute o m apos) (e :: es) [] pos) X.env = (do
      let w ← eval o X.env
      standAt apos.atName
      let (g, a) ← holding [w] (getMethod w m pl)
      callWith pos g a (backTo pos (starEach (e :: es) X.env)) (backToKw pos (keywordEach [] X.env))) := by rfl) :
    PE X (.Call (.Attribute o m apos) (e :: es) [] pos) (tDyn CL m sp E ta t) := by
  refine ⟨fun pins s σ H Q I h => PySem.W.methodCall_KW (pl := pl) (thn (he.run pins s σ H _ I h) fun u s1 ⟨y, H1, I1, ry, a, n, C, dx, fs, ey, hC, ea, l, q⟩ => ?_) ht⟩
  subst ey
  obtain rfl : u = Value.ref a := ry
  obtain ⟨f, fd, c, hm, hb, F⟩ := D n C hC
  refine getmeth_ok I1 ea c hm l (PySem.W.callWith_K (first := [.ref a]) (h₀ := X.base) I1.ok.mod.kin hm.kp (thn (ha.run pos pins s1 σ H1 _ I1 q) fun us s2 ⟨vs, H2, J, r, q2⟩ => ⟨J.kIn, ?_⟩) hst hpl)
  have r1 : Vals (V.ref a :: vs) (Value.ref a :: us) := .cons rfl r
  have q3 : sp n (V.ref a :: vs ++ []) H2 Q E := by rw [List.append_nil]; exact q2
  exact run_g F (rm.mono hk) gd hx J (bind_pos (dvs := []) F hb .nil J.kIn r1 q3) (r1.append .nil) q3
theorem pe_dprop (he : PE X o ta) (D : DProp X.prog X.w X.K X.mg X.base j CL m sp) (rm : Room (k + 1) X.A) (hk : j ≤ k) (gd : X.A.guards = some [])
    (ab : attributeBase o m X.env (eval o X.env) = eval o X.env := by rfl) : PE X (.Attribute o m pos) (tDynP CL sp E ta) := by
  refine ⟨fun pins s σ H Q I z => ?_⟩
  refine attr_of ab (thn (he.run pins s σ H _ I z) fun u s1 z1 => ?_)
  obtain ⟨v0, H1, J, ru, a, n, C, dx, fs, rfl, hC, ea, q⟩ := z1
  obtain ⟨p, g, fd, c, P, hb, F⟩ := D n C hC
  obtain rfl : u = Value.ref a := ru
  obtain ⟨mA, O, _⟩ := ins_get J.hok ea
  obtain ⟨od, O, _⟩ := O.look
  obtain ⟨tail, isP⟩ := P.rec_
  have isC : (PySem.W.clsIn X.K C).isSome = true := let ⟨_, w, _⟩ := PySem.W.any_some c.hd; w ▸ rfl
  have J1 := J.tok (s1.toks + 1)
  have pg := PySem.W.plainGet_of (c.get m)
  refine PySem.W.get_bind J.kIn O pg.1 (PySem.W.findObj_data isC P.at_ P.get P.tak) pg.2 (wpAny_call (PySem.W.prop_get (s := { s1 with toks := s1.toks + 1 }) J.kIn isP ?_))
  have r1 : Vals [V.ref a] [Value.ref a] := .cons rfl .nil
  have bt := bind_pos (dvs := []) (vs := [V.ref a]) F hb .nil J1.kIn r1 q
  refine codeAny_mono (F.go X.A.in1 X.stack { s1 with toks := s1.toks + 1 } H1 ⟨[.ref a], []⟩ _ _ Q E (rm.mono (Nat.succ_le_succ hk)).in1 gd J1.env0.in1 bt r1 q) fun out s2 z2 => ?_
  match out, z2 with
  | .error er, z2 => exact False.elim z2
  | .ok (.ret u), z2 =>
    obtain ⟨v, H2, J2, rv, q2⟩ := J1.after z2
    show wpAny _ _ (handedOut u) _ _ _
    rw [PySem.W.handedOut_of (handed_of rv)]
    exact wpAny_pure ⟨v, H2, J2, rv, q2⟩
def tDynK (CL : List Addr) (m : Str) (sp : Nat → Sp) (E : XK) (ta : TE) (tk : TA) : TE := fun σ H Q => ta σ H fun x H1 => ∃ a n C dx fs, x = .ref a ∧ CL[n]? = some C ∧ H1 a = some (.ins C dx fs) ∧ fs.lookup m = none ∧ tk σ H1 fun zs H2 => ∃ z, zs = [z] ∧ sp n [.ref a, z] H2 Q E
/-- o.m(x=e) -/
theorem pe_dmethK {pl : Sem Bool} (he : PE X o ta) (D : DMethK X.prog X.w X.K X.mg X.base CX j CL m x sp) (rm : Room k X.A) (hk : j ≤ k) (gd : X.A.guards = some []) (hx : Passes CX X E) (hkw : PK X kws tk)
    (hall : (backToKw pos (keywordEach kws X.env)).all (·.1.isSome) = true := by rfl) (hks : (backToKw pos (keywordEach kws X.env)).filterMap (·.1) = [x] := by rfl)
    (hpl : ((backTo pos (starEach [] X.env)).any (·.1) || (backToKw pos (keywordEach kws X.env)).any (·.1.isNone)) = false := by rfl)
    (ht : eval (.Call (.Attribute o m apos) [] kws pos) X.env = (do
      let w ← eval o X.env
      standAt apos.atName
      let (g, a) ← holding [w] (getMethod w m pl)
      callWith pos g a (backTo pos (starEach [] X.env)) (backToKw pos (keywordEach kws X.env))) := by rfl) :
    PE X (.Call (.Attribute o m apos) [] kws pos) (tDynK CL m sp E ta tk) := by
  refine ⟨fun pins s σ H Q I h => PySem.W.methodCall_KW (pl := pl) (thn (he.run pins s σ H _ I h) fun u s1 ⟨y, H1, I1, ry, a, n, C, dx, fs, ey, hC, ea, l, q⟩ => ?_) ht⟩
  subst ey
  obtain rfl : u = Value.ref a := ry
  obtain ⟨f, fd, c, hm, hb, F⟩ := D n C hC
  refine getmeth_ok I1 ea c hm l (PySem.W.callWith_KW0 (first := [.ref a]) (h₀ := X.base) I1.ok.mod.kin hm.kp hall (thn (hkw.run pos pins s1 σ H1 _ I1 q) fun ws s2 ⟨zs, H2, J, rz, z, ez, q2⟩ => ⟨J.kIn, ?_⟩) hpl)
  subst ez
  obtain ⟨u, eu, ru⟩ := vals1 rz
  subst eu
  rw [hks]
  have r1 : Vals [V.ref a] [Value.ref a] := .cons rfl .nil
  exact run_g (us := [.ref a]) F (rm.mono hk) gd hx J (hb.to s2 [.ref a] [u] J.kIn rfl rfl) (hb.rel r1 (.cons ru .nil)) q2
theorem w_dynP {σ : L2.St} {H : Hp} {Q : VK} (q : ta σ H fun x H1 => ∃ a n C dx fs, x = .ref a ∧ CL[n]? = some C ∧ H1 a = some (.ins C dx fs) ∧ sp n [.ref a] H1 Q E) : tDynP CL sp E ta σ H Q := q
theorem w_dyn {σ : L2.St} {H : Hp} {Q : VK} (q : ta σ H fun x H1 => ∃ a n C dx fs, x = .ref a ∧ CL[n]? = some C ∧ H1 a = some (.ins C dx fs) ∧ fs.lookup m = none ∧ tk σ H1 fun vs H2 => sp n (.ref a :: vs) H2 Q E) : tDyn CL m sp E ta tk σ H Q := q
theorem w_dynK {σ : L2.St} {H : Hp} {Q : VK} (q : ta σ H fun x H1 => ∃ a n C dx fs, x = .ref a ∧ CL[n]? = some C ∧ H1 a = some (.ins C dx fs) ∧ fs.lookup m = none ∧ tk σ H1 fun zs H2 => ∃ z, zs = [z] ∧ sp n [.ref a, z] H2 Q E) : tDynK CL m sp E ta tk σ H Q := q
end
end KG

set_option Elab.async false
set_option linter.all false
set_option maxRecDepth 100000
set_option maxHeartbeats 3200000
/-! KC: set(xs) of a list of whole numbers, as a value; sorted of it is the layer's own. -/
namespace KG
open PySem PySem.Spec PySem.Calls PyProof.Rows L2
section
variable {P : Program} {w : World} {A : Around} {E : Value → Shared → Prop} {s : Shared}
/-- a set as set.__new__ lays it -/
abbrev set0 (w : World) : Obj := { cls := .type "set", dict := none, data := .set #[] 0 (.fresh 0 0 (!w.params.followText "set-order")) }
/-- the state with such a set laid -/
abbrev laid0 (w : World) (s : Shared) : Shared := { s with heap := s.heap.push (set0 w) }
/-- what stands behind: all that was, and the set of the numbers at d -/
def Filled (w : World) (s : Shared) (d : Addr) (ns : List Int) (s' : Shared) : Prop :=
  ∃ (h' : Heap) (tk c : Nat), s' = { s with heap := h', toks := tk } ∧ SetR w h' d (fun j => decide (j ∈ ns)) c ∧ c ≤ ns.length ∧ ∀ b o, b ≠ d → s.heap.get? b = some o → h'.get? b = some o
/-- the filling, from the list's iterator -/
theorem fill_from {B : Around} {l d : Addr} {items : Array Value} {ns : List Int} {R : Result → Shared → Prop} (hB : B.handled = none) (hit : IntsAre items.toList ns) (hb : ns.length + 1 < scanBound) (hl : s.heap.IsList l items)
    (hd : s.heap.get? d = some (set0 w)) (hne : d ≠ l) (h : ∀ s', Filled w s d ns s' → R (.ok (.ret .none)) s') :
    codeAny (model P w) B (.builtin "set.update.loop" ⟨[.ref d, .ref s.heap.objs.size], []⟩) R { s with heap := s.heap.push { cls := .type "list_iterator", data := .fields #[.ref l, .int 0 0] } } := by
  have en : items.size = ns.length := by
    have q := IntsAre.length hit
    rwa [Array.length_toList] at q
  obtain ⟨ol, hol, hol2⟩ := id hl
  have lt1 : l < s.heap.objs.size := Heap.lt_size hol
  have lt2 : d < s.heap.objs.size := Heap.lt_size hd
  have at_i : ∀ (i : Nat) (v : Value), items[i]? = some v → ∃ k t, ns[i]? = some k ∧ v = .int k t := fun i v hv => by
    have hi : i < ns.length := by rw [← en]; exact (Array.getElem?_eq_some_iff.mp hv).1
    obtain ⟨t, e⟩ := PyProof.Rows.IntsAre.int_at hit i v (by rw [Array.getElem?_toList]; exact hv)
    refine ⟨ns[i], t, List.getElem?_eq_getElem hi, ?_⟩
    rw [e, List.getD_eq_getElem?_getD, List.getElem?_eq_getElem hi] <;> rfl
  refine set_update_ints ((Walks.list (by simp [hB]) s.heap.objs.size l (Nat.ne_of_lt lt1) items).toS) d (by simp; exact ⟨Nat.ne_of_lt lt2, hne⟩) ns en hb at_i items.size 0 _ (by omega) (Nat.zero_le _)
    ⟨⟨_, Heap.get?_push_size _ rfl, rfl, rfl⟩, hl.push _⟩ ⟨0, Nat.le_refl 0, setR_new_at (Heap.get?_push_of_some _ hd)⟩ fun s' c m hc R1 => h s' ?_
  obtain ⟨h', g', d', tk, os'⟩ := s'
  obtain rfl : g' = s.gens := m.gens
  obtain rfl : d' = s.drawn := m.drawn
  obtain rfl : os' = s.os := m.os
  refine ⟨h', tk, c, rfl, R1, en ▸ hc, fun b o nb e => m.heap b o ?_ (Heap.get?_push_of_some _ e)⟩
  have := Heap.lt_size e
  simp only [List.mem_cons, List.not_mem_nil, or_false, not_or]
  exact ⟨nb, Nat.ne_of_lt this⟩
/-- set.__init__ on the fresh set -/
theorem init_list {l : Addr} {items : Array Value} {ns : List Int} (hh : A.handled = none) (hit : IntsAre items.toList ns) (hb : ns.length + 1 < scanBound) (hl : s.heap.IsList l items) :
    codeAny (model P w) A (.call (.builtin "set.__init__") ⟨[.ref s.heap.objs.size, .ref l], []⟩) (wants (fun r s' => r = .none ∧ Filled w (laid0 w s) s.heap.objs.size ns s') E) (laid0 w s) := by
  have hS : (laid0 w s).heap.get? s.heap.objs.size = some (set0 w) := Heap.get?_push_size _ rfl
  have hT : (laid0 w s).TypeIs (.ref s.heap.objs.size) "set" := ⟨_, hS, rfl⟩
  refine codeAny_call_builtin F.called_set.init.plain F.entry_set_init (check_set_init_1 hT ?_)
  have hl1 : (laid0 w s).heap.IsList l items := hl.push _
  obtain ⟨⟨ocls, odict, odata, osl⟩, hol, hcl, nl, hdl⟩ := id hl
  simp only at hcl hdl
  subst hcl hdl
  have hol' := Heap.get?_push_of_some (set0 w) hol
  have e1 := F.sub_list_set
  have e2 := F.sub_list_frozenset
  have e3 : (Value.type "list" == Value.type "dict") = false := by decide
  have lt1 : l < s.heap.objs.size := Heap.lt_size hol
  unfold Builtin.«set.__init__» noKeywords Builtin.Frozenset.updateFrom
  generalize hPI : pyIter = PI
  wp_walk
  subst hPI
  refine wpAny_pyIter_list hl1 ?_
  refine wpAny_bind (wpAny_runValue (fill_from (s := laid0 w s) (by simp [hh]) hit hb hl1 hS (Nat.ne_of_gt lt1) fun s' f => ?_))
  show wpAny _ _ _ _ _ _
  refine wpAny_pure ?_
  show wpAny _ _ (ret Value.none) _ _ _
  exact wpAny_pure ⟨rfl, f⟩
/-- set(xs) -/
theorem set_list {l : Addr} {items : Array Value} {ns : List Int} {Q : Value → Shared → Prop} (hh : A.handled = none) (hit : IntsAre items.toList ns) (hb : ns.length + 1 < scanBound) (hl : s.heap.IsList l items)
    (h : ∀ s', Filled w (laid0 w s) s.heap.objs.size ns s' → Q (.ref s.heap.objs.size) s') : wpAny (model P w) A (call (.type "set") [.ref l]) Q E s := by
  obtain ⟨c, tl, hmro⟩ := F.called_set.mro
  have k1 := F.called_set.made
  have k2 := F.called_set.sub
  have k3 := F.called_set.notType
  have k4 := F.called_set.canCreate
  have k5 := F.typeCall_set_1 (.ref l)
  refine wpAny_call (codeAny_of_tree ?_)
  show wpAny _ _ (callAny (.type "set") _) _ _ _
  refine wpAny_pure ⟨Code.quiet_builtin _ (by decide +kernel), codeAny_builtin F.entry_type_call ?_⟩
  rw [Around.under_plain (weight_type_call_type "set" [.ref l] []) rfl]
  repeat (any_goals (first | assumption | wp_step))
  refine codeAny_mono (code_set_led1 (.ref l) (E := E) (Q₁ := fun obj s₁ => obj = .ref s.heap.objs.size ∧ s₁ = laid0 w s) ⟨rfl, rfl⟩) fun r s₁ hr => ?_
  rcases r with e | (_ | _ | _ | obj)
  · exact hr
  iterate 3 exact hr.elim
  · obtain ⟨rfl, rfl⟩ := hr
    have hS : (laid0 w s).heap.get? s.heap.objs.size = some (set0 w) := Heap.get?_push_size _ rfl
    have hT : (laid0 w s).TypeIs (.ref s.heap.objs.size) "set" := ⟨_, hS, rfl⟩
    have k6 := F.called_set.init.lookup
    have k7 := F.called_set.init.bind (.ref s.heap.objs.size)
    repeat (any_goals (first | assumption | wp_step))
    refine codeAny_mono (init_list (E := E) (by simp [hh]) hit hb hl) fun r₂ s₂ hr₂ => ?_
    rcases r₂ with e | (_ | _ | _ | r)
    · exact hr₂
    iterate 3 exact hr₂.elim
    · obtain ⟨rfl, f⟩ := hr₂
      repeat (any_goals (first | assumption | wp_step))
      exact h _ f
end
/-- set(xs), xs a list of whole numbers -/
def rSetI (K : PySem.W.Frag) (w : World) : List V → Hp → VK → Prop := fun xs H Q => ∃ (l : Addr) (ns : List Int), xs = [.ref l] ∧ SqL K H l (ns.map V.int) ∧ ns.length ≤ 1000 ∧ ∀ (a : Addr) (c : Nat), H a = none → c ≤ ns.length → Q (.ref a) (upd H a (SetO w a (fun j => decide (j ∈ ns)) c))
theorem cr_setI {X : Cx} (hc : X.calm = true) : CallR X (.type "set") (rSetI X.K X.w) := by
  intro pins s σ H xs us Q I r h
  obtain ⟨l, ns, rfl, hl, hb, q⟩ := h
  rw [Vals.ref1 r]
  obtain ⟨its, rv, p, hz⟩ := I.list hl
  have fr : H s.heap.objs.size = none := I.hok.fresh (Nat.le_refl _)
  refine set_list (I.ok.hd hc) (ns := ns) (items := its.toArray) (by simpa using RZ.intsAre_vals rv) (by unfold scanBound; omega) p.isList fun s' ⟨h', tk, c, e, R, hcl, k⟩ => ?_
  subst e
  have kp : ∀ b o, s.heap.get? b = some o → h'.get? b = some o := fun b o e => k b o (Nat.ne_of_lt (Heap.lt_size e)) (Heap.get?_push_of_some _ e)
  exact ⟨.ref s.heap.objs.size, upd H s.heap.objs.size (SetO X.w s.heap.objs.size (fun j => decide (j ∈ ns)) c), I.laid (t' := tk) kp (Nat.le_refl _) (setO_new R), rfl, q _ c fr hcl⟩
end KG

set_option Elab.async false
set_option linter.all false
set_option maxRecDepth 100000
set_option maxHeartbeats 1000000
/-! KC2: an instance made by the class's name alone, all of its __init__'s arguments by default. -/
namespace KG
open PySem PySem.Spec PySem.Calls PyProof.Rows L2
theorem pe_gmake0 {X : Cx} {CX : CXT} {k : Nat} {C f : Addr} {fd : FuncData} {ps : List Str} {sp : Sp} {E : XK} {x : Str} {p pos : Pos} {ds : List Value} {dvs : List V} (M : Mk X.K C f) (F : Gd X.prog X.w X.K X.mg X.base CX k f fd ps sp) (rm : Room (k + 1) X.A) (gd : X.A.guards = some []) (gl : Gl X x) (at_ : X.mg x = some (.ref C))
    (hb : Binds X.K fd ps ds) (hd : Vals dvs ds) (hx : Passes CX X E) (hdb : (x == ("__debug__" : Str)) = false := by decide) : PE X (.Call (.Name x p) [] [] pos) (tMake C sp dvs E tNil) := by
  refine ⟨fun pins s σ H Q I h => wpAny_Call_Name_kw (ld_glob I gl at_ (PySem.W.callWith_K0 (first := []) I.kIn M.kp ?_) hdb)⟩
  have rr : ∀ y : Addr, Vals (V.ref y :: dvs) (Value.ref y :: ds) := fun y => .cons rfl hd
  have hl : ∀ y : Addr, (Value.ref y :: ds).length = ps.length := fun y => by
    have e := (rr y).length
    have q1 := h (s.heap.objs.size + 1) s.heap.objs.size (I.hok.fresh (Nat.le_succ _)) (I.hok.fresh (Nat.le_refl _)) (Nat.ne_of_lt (Nat.lt_succ_self _))
    have e1 := F.len _ _ _ _ q1
    rw [← e, ← e1]
    simp
  exact run_gmake (us := []) (fun y => y :: ds) (fun y => y :: dvs) M F rm gd (fun s y KX => hb s [.ref y] KX (hl y)) rr hx I h
end KG

set_option Elab.async false
set_option linter.all false
set_option maxRecDepth 100000
/-! KL: what the top leaves, told by one run in the kernel for each answer of the one row that it asks of the world; the law's own tables are looked at, too. -/
namespace KL
open PySem PySem.W PySem.Calls PyProof.Rows

/-- the objects at some places and the tables at others, off the tree -/
def seen (as ts : List Addr) (s : SharedT) : List (Option Obj) × List (Option Obj) := (as.map (HeadRun.getT s), ts.map (HeadRun.getT s))
theorem seen_eq {K : Params → Frag} {as : List Addr} {ek : ∀ P, as = (K P).map (·.1)} {ts : List Addr} (s : SharedT) : seen as ts s = (kmHook K as ek ts).obs s.abs :=
  Prod.ext (List.map_congr_left fun a _ => HeadRun.getT_eq s a) (List.map_congr_left fun a _ => HeadRun.getT_eq s a)
/-- one answer of the row is enough at a time -/
theorem left_tabs {p q : Program} {loose : List PySem.Str} {Xt : Shared → Bool} {K : Params → Frag} {as : List Addr} {ek : ∀ P, as = (K P).map (·.1)} {ts : List Addr} {N : Nat} (M : Nat)
    (e : opening p = plainProg p.main.scope.names) (hN : Nat.ble 600 N = true) (f : ∀ s, fenceModules? p s = some s) (le : Nat.ble M N = true)
    (run : ∀ (w : World) (os : OsState), (HeadRun.endF (HeadRun.stepQ (HeadRun.denQ HeadRun.tabQ) p w) M p w os).map (fun s => (HeadRun.looksF p (boot_heap w.params) s.abs, HeadRun.seenQ q loose (importedModules p.main.body) Xt s.abs, seen as ts s))
      = some (true, openGood q loose, (kmHook K as ek ts).val w)) :
    LeftO p q loose Xt (Hook.obs (kmHook K as ek ts)) (Hook.val (kmHook K as ek ts)) N true :=
  HeadRun.left_one (M := M) e hN f le fun w os => by
    simp only [HeadRun.endQ_eq, HeadRun.seenQ_eq, ← seen_eq (ek := ek)]
    exact run w os
/-- .. of a law whose text makes no def within a def -/
theorem left_plain {p q : Program} {loose : List PySem.Str} {Xt : Shared → Bool} {K : Params → Frag} {as : List Addr} {ek : ∀ P, as = (K P).map (·.1)} {N : Nat} (M : Nat)
    (e : opening p = plainProg p.main.scope.names) (hN : Nat.ble 600 N = true) (f : ∀ s, fenceModules? p s = some s) (le : Nat.ble M N = true)
    (run : ∀ (w : World) (os : OsState), (HeadRun.endF (HeadRun.stepQ (HeadRun.denQ HeadRun.tabQ) p w) M p w os).map (fun s => (HeadRun.looksF p (boot_heap w.params) s.abs, HeadRun.seenQ q loose (importedModules p.main.body) Xt s.abs, as.map (HeadRun.getT s)))
      = some (true, openGood q loose, (kHook K as ek).val w)) :
    LeftO p q loose Xt (Hook.obs (kHook K as ek)) (Hook.val (kHook K as ek)) N true :=
  HeadRun.left_one (M := M) e hN f le fun w os => by
    have es : ∀ s : SharedT, as.map (HeadRun.getT s) = (kHook K as ek).obs s.abs := fun s => List.map_congr_left fun a _ => HeadRun.getT_eq s a
    simp only [HeadRun.endQ_eq, HeadRun.seenQ_eq, ← es]
    exact run w os
end KL

set_option Elab.async false
set_option linter.all false
set_option maxRecDepth 100000
set_option maxHeartbeats 4000000
namespace Law
open PySem PySem.Spec PySem.Calls PyProof.Rows L2 KG LamX
local macro_rules | `(tactic| walk_at "1") => `(tactic| first
  | (with_reducible refine w_var rfl ?_) | (with_reducible refine w_c ?_) | (with_reducible refine w_seq ?_) | (with_reducible refine w_asg ?_) | (with_reducible refine w_gname ?_) | (with_reducible refine w_op ?_) | (with_reducible refine w_un ?_)
  | (with_reducible refine w_add ?_) | (with_reducible refine w_sub ?_) | ((with_reducible refine' w_mod ?mo ?_); (case mo => first | assumption | decide | omega)) | (with_reducible refine w_and ?_) | (with_reducible refine w_or ?_) | (with_reducible refine w_xor ?_)
  | (with_reducible refine w_gt ?_) | (with_reducible refine w_lt ?_) | (with_reducible refine w_ge ?_) | (with_reducible refine w_le ?_) | ((with_reducible refine' w_eq ?sc ?_); (case sc => rfl)) | ((with_reducible refine' w_ne ?sc ?_); (case sc => rfl))
  | (with_reducible refine w_ret ?_) | (with_reducible refine w_next ?_) | (with_reducible refine w_ifs ?_) | (with_reducible refine w_ifx ?_) | (with_reducible refine w_test ?_) | (with_reducible refine w_tB ?_) | (with_reducible refine w_bl ?_)
  | ((with_reducible refine' w_ixL ?ixh ?ixa ?_); (case ixh => first | exact SqL.of (by assumption)); (case ixa => first | rfl | skip)) | ((with_reducible refine' w_ixT ?ixh ?ixa ?_); (case ixh => first | exact SqT.of (by assumption)); (case ixa => first | rfl | skip))
  | ((with_reducible refine' w_fld ?_)) | ((with_reducible refine' fld ?fh ?fc ?fn ?fl ?_); (case fh => assumption); (case fc => assumption); (case fn => assumption); (case fl => rfl)) | (with_reducible refine w_sfld ?_)
  | (with_reducible refine Or.inl ⟨_, rfl, ?_⟩) | (with_reducible refine w_gsub ?_) | (with_reducible refine w_andV ?_) | (with_reducible refine w_orV ?_)
  | (with_reducible refine w_nil ?_) | (with_reducible refine w_cons ?_) | (with_reducible refine w_tup ?_) | (with_reducible refine w_lst ?_) | (with_reducible refine w_and2 ?_) | (with_reducible refine w_or2 ?_) | (with_reducible refine w_not ?_) | (with_reducible refine w_cb ?_) | (with_reducible refine w_call ?_) | (with_reducible refine w_par ?_) | (with_reducible refine w_pnil ?_) | (with_reducible refine w_pcons ?_) | (with_reducible refine w_dput ?_) | (with_reducible refine w_dget ?_) | (with_reducible refine w_for ?_) | (with_reducible refine w_itup ?_) | (with_reducible refine w_ilist ?_) | (with_reducible refine w_irng ?_) | (with_reducible refine w_meth ?_) | (with_reducible refine w_make ?_) | (with_reducible refine w_makeK ?_) | (with_reducible refine w_methK ?_) | ((with_reducible refine' mth ?mh ?ml ?_); (case mh => assumption); (case ml => rfl)) | (with_reducible refine w_drop ?_))
local macro_rules | `(tactic| walk_at "go") => `(tactic| ((repeat (walk_at "1")); try dsimp only))
local macro_rules | `(tactic| walk_at "1") => `(tactic| first
  | (with_reducible refine w_notV ?_) | (with_reducible refine w_callK ?_) | (with_reducible refine w_lc ?_) | (with_reducible refine w_chain ?_) | (with_reducible refine w_neg ?_) | ((with_reducible refine' w_shr ?mo ?_); (case mo => first | assumption | omega)))
def top (i : Nat) : Stmt := PySem.Challenge.pw_keptbits_k09_a_family_of_bits.main.body.getD i (.Pass ⟨0, 0, 0, 0⟩)
abbrev s_Kind___init__ : Stmt := inClass (top 8) 3
theorem sc_Kind___init__ : FnScope ["self", "reading", "writing", "device", "value", "words"] ["self", "reading", "writing", "device"] (defScope s_Kind___init__) := ⟨rfl, rfl, rfl, by decide +kernel, rfl, by decide +kernel, by decide +kernel⟩
theorem bd_Kind___init__ : BindOk "__init__" "Kind.__init__" s_Kind___init__ ["self", "reading", "writing", "device"] := fun _ _ _ _ _ _ us hl => match us, hl with | [_, _, _, _], _ => rfl
abbrev s_Kind_after_read : Stmt := inClass (top 8) 4
theorem sc_Kind_after_read : FnScope ["self", "state"] ["self", "state"] (defScope s_Kind_after_read) := ⟨rfl, rfl, rfl, by decide +kernel, rfl, by decide +kernel, by decide +kernel⟩
theorem bd_Kind_after_read : BindOk "after_read" "Kind.after_read" s_Kind_after_read ["self", "state"] := fun _ _ _ _ _ _ us hl => match us, hl with | [_, _], _ => rfl
abbrev s_Kind_after_write : Stmt := inClass (top 8) 5
theorem sc_Kind_after_write : FnScope ["self", "state", "bit"] ["self", "state", "bit"] (defScope s_Kind_after_write) := ⟨rfl, rfl, rfl, by decide +kernel, rfl, by decide +kernel, by decide +kernel⟩
theorem bd_Kind_after_write : BindOk "after_write" "Kind.after_write" s_Kind_after_write ["self", "state", "bit"] := fun _ _ _ _ _ _ us hl => match us, hl with | [_, _, _], _ => rfl
abbrev s_Kind_unguarded : Stmt := inClass (top 8) 6
theorem sc_Kind_unguarded : FnScope ["self", "state", "bit", "ends"] ["self", "state", "bit"] (defScope s_Kind_unguarded) := ⟨rfl, rfl, rfl, by decide +kernel, rfl, by decide +kernel, by decide +kernel⟩
theorem bd_Kind_unguarded : BindOk "unguarded" "Kind.unguarded" s_Kind_unguarded ["self", "state", "bit"] := fun _ _ _ _ _ _ us hl => match us, hl with | [_, _, _], _ => rfl
abbrev s_Kind_deeds : Stmt := inClass (top 8) 7
theorem sc_Kind_deeds : FnScope ["self", "state"] ["self", "state"] (defScope s_Kind_deeds) := ⟨rfl, rfl, rfl, by decide +kernel, rfl, by decide +kernel, by decide +kernel⟩
theorem bd_Kind_deeds : BindOk "deeds" "Kind.deeds" s_Kind_deeds ["self", "state"] := fun _ _ _ _ _ _ us hl => match us, hl with | [_, _], _ => rfl
abbrev s_Kind___eq__ : Stmt := inClass (top 8) 8
theorem sc_Kind___eq__ : FnScope ["self", "other"] ["self", "other"] (defScope s_Kind___eq__) := ⟨rfl, rfl, rfl, by decide +kernel, rfl, by decide +kernel, by decide +kernel⟩
theorem bd_Kind___eq__ : BindOk "__eq__" "Kind.__eq__" s_Kind___eq__ ["self", "other"] := fun _ _ _ _ _ _ us hl => match us, hl with | [_, _], _ => rfl
abbrev s_is_int : Stmt := top 10
theorem sc_is_int : FnScope ["value"] ["value"] (defScope s_is_int) := ⟨rfl, rfl, rfl, by decide +kernel, rfl, by decide +kernel, by decide +kernel⟩
theorem bd_is_int : BindOk "is_int" "is_int" s_is_int ["value"] := fun _ _ _ _ _ _ us hl => match us, hl with | [_], _ => rfl
abbrev s_full_word : Stmt := top 11
theorem sc_full_word : FnScope ["size"] ["size"] (defScope s_full_word) := ⟨rfl, rfl, rfl, by decide +kernel, rfl, by decide +kernel, by decide +kernel⟩
theorem bd_full_word : BindOk "full_word" "full_word" s_full_word ["size"] := fun _ _ _ _ _ _ us hl => match us, hl with | [_], _ => rfl
abbrev s_is_word : Stmt := top 12
theorem sc_is_word : FnScope ["value", "size"] ["value", "size"] (defScope s_is_word) := ⟨rfl, rfl, rfl, by decide +kernel, rfl, by decide +kernel, by decide +kernel⟩
theorem bd_is_word : BindOk "is_word" "is_word" s_is_word ["value", "size"] := fun _ _ _ _ _ _ us hl => match us, hl with | [_, _], _ => rfl
abbrev s_check_word : Stmt := top 13
theorem sc_check_word : FnScope ["value", "size"] ["value", "size"] (defScope s_check_word) := ⟨rfl, rfl, rfl, by decide +kernel, rfl, by decide +kernel, by decide +kernel⟩
theorem bd_check_word : BindOk "check_word" "check_word" s_check_word ["value", "size"] := fun _ _ _ _ _ _ us hl => match us, hl with | [_, _], _ => rfl
abbrev s_Bit___init__ : Stmt := inClass (top 15) 1
theorem sc_Bit___init__ : FnScope ["self", "value"] ["self", "value"] (defScope s_Bit___init__) := ⟨rfl, rfl, rfl, by decide +kernel, rfl, by decide +kernel, by decide +kernel⟩
abbrev s_Bit_now : Stmt := inClass (top 15) 2
theorem sc_Bit_now : FnScope ["self"] ["self"] (defScope s_Bit_now) := ⟨rfl, rfl, rfl, by decide +kernel, rfl, by decide +kernel, by decide +kernel⟩
theorem bd_Bit_now : BindOk "now" "Bit.now" s_Bit_now ["self"] := fun _ _ _ _ _ _ us hl => match us, hl with | [_], _ => rfl
abbrev s_Bit_state : Stmt := inClass (top 15) 3
theorem sc_Bit_state : FnScope ["self"] ["self"] (defScope s_Bit_state) := ⟨rfl, rfl, rfl, by decide +kernel, rfl, by decide +kernel, by decide +kernel⟩
theorem bd_Bit_state : BindOk "state" "Bit.state" s_Bit_state ["self"] := fun _ _ _ _ _ _ us hl => match us, hl with | [_], _ => rfl
abbrev s_Bit_read : Stmt := inClass (top 15) 4
theorem sc_Bit_read : FnScope ["self"] ["self"] (defScope s_Bit_read) := ⟨rfl, rfl, rfl, by decide +kernel, rfl, by decide +kernel, by decide +kernel⟩
theorem bd_Bit_read : BindOk "read" "Bit.read" s_Bit_read ["self"] := fun _ _ _ _ _ _ us hl => match us, hl with | [_], _ => rfl
abbrev s_Bit_write : Stmt := inClass (top 15) 5
theorem sc_Bit_write : FnScope ["self", "bit"] ["self", "bit"] (defScope s_Bit_write) := ⟨rfl, rfl, rfl, by decide +kernel, rfl, by decide +kernel, by decide +kernel⟩
theorem bd_Bit_write : BindOk "write" "Bit.write" s_Bit_write ["self", "bit"] := fun _ _ _ _ _ _ us hl => match us, hl with | [_, _], _ => rfl
abbrev s_Bit_deed : Stmt := inClass (top 15) 6
theorem sc_Bit_deed : FnScope ["self"] ["self"] (defScope s_Bit_deed) := ⟨rfl, rfl, rfl, by decide +kernel, rfl, by decide +kernel, by decide +kernel⟩
theorem bd_Bit_deed : BindOk "deed" "Bit.deed" s_Bit_deed ["self"] := fun _ _ _ _ _ _ us hl => match us, hl with | [_], _ => rfl
abbrev s_TakenBit_read : Stmt := inClass (top 16) 1
theorem sc_TakenBit_read : ScS ["self", "value"] ["self"] (defScope s_TakenBit_read) := ⟨rfl, rfl, rfl, rfl, by decide +kernel, by decide +kernel, by decide +kernel, by decide +kernel, rfl, rfl⟩
abbrev s_ClearedBit_write : Stmt := inClass (top 17) 1
theorem sc_ClearedBit_write : FnScope ["self", "bit"] ["self", "bit"] (defScope s_ClearedBit_write) := ⟨rfl, rfl, rfl, by decide +kernel, rfl, by decide +kernel, by decide +kernel⟩
theorem bd_ClearedBit_write : BindOk "write" "ClearedBit.write" s_ClearedBit_write ["self", "bit"] := fun _ _ _ _ _ _ us hl => match us, hl with | [_, _], _ => rfl
abbrev s_ZeroClearedBit_write : Stmt := inClass (top 18) 1
theorem sc_ZeroClearedBit_write : FnScope ["self", "bit"] ["self", "bit"] (defScope s_ZeroClearedBit_write) := ⟨rfl, rfl, rfl, by decide +kernel, rfl, by decide +kernel, by decide +kernel⟩
theorem bd_ZeroClearedBit_write : BindOk "write" "ZeroClearedBit.write" s_ZeroClearedBit_write ["self", "bit"] := fun _ _ _ _ _ _ us hl => match us, hl with | [_, _], _ => rfl
abbrev s_SetBit_write : Stmt := inClass (top 19) 1
theorem sc_SetBit_write : FnScope ["self", "bit"] ["self", "bit"] (defScope s_SetBit_write) := ⟨rfl, rfl, rfl, by decide +kernel, rfl, by decide +kernel, by decide +kernel⟩
theorem bd_SetBit_write : BindOk "write" "SetBit.write" s_SetBit_write ["self", "bit"] := fun _ _ _ _ _ _ us hl => match us, hl with | [_, _], _ => rfl
abbrev s_FlippedBit_write : Stmt := inClass (top 20) 1
theorem sc_FlippedBit_write : FnScope ["self", "bit"] ["self", "bit"] (defScope s_FlippedBit_write) := ⟨rfl, rfl, rfl, by decide +kernel, rfl, by decide +kernel, by decide +kernel⟩
theorem bd_FlippedBit_write : BindOk "write" "FlippedBit.write" s_FlippedBit_write ["self", "bit"] := fun _ _ _ _ _ _ us hl => match us, hl with | [_, _], _ => rfl
abbrev s_OnceBit_write : Stmt := inClass (top 21) 1
theorem sc_OnceBit_write : FnScope ["self", "bit"] ["self", "bit"] (defScope s_OnceBit_write) := ⟨rfl, rfl, rfl, by decide +kernel, rfl, by decide +kernel, by decide +kernel⟩
theorem bd_OnceBit_write : BindOk "write" "OnceBit.write" s_OnceBit_write ["self", "bit"] := fun _ _ _ _ _ _ us hl => match us, hl with | [_, _], _ => rfl
abbrev s_DeafBit_write : Stmt := inClass (top 22) 1
theorem sc_DeafBit_write : FnScope ["self", "bit"] ["self", "bit"] (defScope s_DeafBit_write) := ⟨rfl, rfl, rfl, by decide +kernel, rfl, by decide +kernel, by decide +kernel⟩
theorem bd_DeafBit_write : BindOk "write" "DeafBit.write" s_DeafBit_write ["self", "bit"] := fun _ _ _ _ _ _ us hl => match us, hl with | [_, _], _ => rfl
abbrev s_RaisedBit_deed : Stmt := inClass (top 23) 1
theorem sc_RaisedBit_deed : ScS ["self"] ["self"] (defScope s_RaisedBit_deed) := ⟨rfl, rfl, rfl, rfl, by decide +kernel, by decide +kernel, by decide +kernel, by decide +kernel, rfl, rfl⟩
abbrev s_EndedBit_deed : Stmt := inClass (top 24) 1
theorem sc_EndedBit_deed : ScS ["self"] ["self"] (defScope s_EndedBit_deed) := ⟨rfl, rfl, rfl, rfl, by decide +kernel, by decide +kernel, by decide +kernel, by decide +kernel, rfl, rfl⟩
abbrev s_KindBit___init__ : Stmt := inClass (top 31) 0
theorem sc_KindBit___init__ : ScS ["self", "kind", "value"] ["self", "kind", "value"] (defScope s_KindBit___init__) := ⟨rfl, rfl, rfl, rfl, by decide +kernel, by decide +kernel, by decide +kernel, by decide +kernel, rfl, rfl⟩
abbrev s_KindBit_read : Stmt := inClass (top 31) 1
theorem sc_KindBit_read : FnScope ["self", "value"] ["self"] (defScope s_KindBit_read) := ⟨rfl, rfl, rfl, by decide +kernel, rfl, by decide +kernel, by decide +kernel⟩
theorem bd_KindBit_read : BindOk "read" "KindBit.read" s_KindBit_read ["self"] := fun _ _ _ _ _ _ us hl => match us, hl with | [_], _ => rfl
abbrev s_KindBit_write : Stmt := inClass (top 31) 2
theorem sc_KindBit_write : FnScope ["self", "bit"] ["self", "bit"] (defScope s_KindBit_write) := ⟨rfl, rfl, rfl, by decide +kernel, rfl, by decide +kernel, by decide +kernel⟩
theorem bd_KindBit_write : BindOk "write" "KindBit.write" s_KindBit_write ["self", "bit"] := fun _ _ _ _ _ _ us hl => match us, hl with | [_, _], _ => rfl
abbrev s_KindBit_deed : Stmt := inClass (top 31) 3
theorem sc_KindBit_deed : FnScope ["self", "ends"] ["self"] (defScope s_KindBit_deed) := ⟨rfl, rfl, rfl, by decide +kernel, rfl, by decide +kernel, by decide +kernel⟩
theorem bd_KindBit_deed : BindOk "deed" "KindBit.deed" s_KindBit_deed ["self"] := fun _ _ _ _ _ _ us hl => match us, hl with | [_], _ => rfl
abbrev s__law_pen : Stmt := top 33
theorem sc__law_pen : FnScope ["_law_script"] ["_law_script"] (defScope s__law_pen) := ⟨rfl, rfl, rfl, by decide +kernel, rfl, by decide +kernel, by decide +kernel⟩
theorem bd__law_pen : BindOk "_law_pen" "_law_pen" s__law_pen ["_law_script"] := fun _ _ _ _ _ _ us hl => match us, hl with | [_], _ => rfl
abbrev s__law_draw : Stmt := top 34
theorem sc__law_draw : FnScope ["_law_pen_here", "_law_many", "_law_digit", "_law_at", "_law_cell", "_law_great", "_law_mixed"] ["_law_pen_here", "_law_many"] (defScope s__law_draw) := ⟨rfl, rfl, rfl, by decide +kernel, rfl, by decide +kernel, by decide +kernel⟩
theorem bd__law_draw : BindOk "_law_draw" "_law_draw" s__law_draw ["_law_pen_here", "_law_many"] := fun _ _ _ _ _ _ us hl => match us, hl with | [_, _], _ => rfl
abbrev s__law_write : Stmt := top 35
theorem sc__law_write : FnScope ["_law_writing", "_law_state", "_law_spot", "_law_begin", "_law_second", "_law_ends"] ["_law_writing", "_law_state", "_law_spot"] (defScope s__law_write) := ⟨rfl, rfl, rfl, by decide +kernel, rfl, by decide +kernel, by decide +kernel⟩
theorem bd__law_write : BindOk "_law_write" "_law_write" s__law_write ["_law_writing", "_law_state", "_law_spot"] := fun _ _ _ _ _ _ us hl => match us, hl with | [_, _, _], _ => rfl
abbrev s__law_read : Stmt := top 36
theorem sc__law_read : FnScope ["_law_reading", "_law_state"] ["_law_reading", "_law_state"] (defScope s__law_read) := ⟨rfl, rfl, rfl, by decide +kernel, rfl, by decide +kernel, by decide +kernel⟩
theorem bd__law_read : BindOk "_law_read" "_law_read" s__law_read ["_law_reading", "_law_state"] := fun _ _ _ _ _ _ us hl => match us, hl with | [_, _], _ => rfl
abbrev s__law_deeds : Stmt := top 37
theorem sc__law_deeds : FnScope ["_law_device", "_law_state"] ["_law_device", "_law_state"] (defScope s__law_deeds) := ⟨rfl, rfl, rfl, by decide +kernel, rfl, by decide +kernel, by decide +kernel⟩
theorem bd__law_deeds : BindOk "_law_deeds" "_law_deeds" s__law_deeds ["_law_device", "_law_state"] := fun _ _ _ _ _ _ us hl => match us, hl with | [_, _], _ => rfl
abbrev s__law_plain_bit : Stmt := top 39
theorem sc__law_plain_bit : FnScope ["_law_number", "_law_begin"] ["_law_number", "_law_begin"] (defScope s__law_plain_bit) := ⟨rfl, rfl, rfl, by decide +kernel, rfl, by decide +kernel, by decide +kernel⟩
theorem bd__law_plain_bit : BindOk "_law_plain_bit" "_law_plain_bit" s__law_plain_bit ["_law_number", "_law_begin"] := fun _ _ _ _ _ _ us hl => match us, hl with | [_, _], _ => rfl
abbrev s__law_bit : Stmt := top 40
theorem sc__law_bit : FnScope ["_law_number", "_law_begin"] ["_law_number", "_law_begin"] (defScope s__law_bit) := ⟨rfl, rfl, rfl, by decide +kernel, rfl, by decide +kernel, by decide +kernel⟩
theorem bd__law_bit : BindOk "_law_bit" "_law_bit" s__law_bit ["_law_number", "_law_begin"] := fun _ _ _ _ _ _ us hl => match us, hl with | [_, _], _ => rfl
abbrev s__law_words_of : Stmt := top 41
theorem sc__law_words_of : FnScope ["_law_number", "_law_some"] ["_law_number"] (defScope s__law_words_of) := ⟨rfl, rfl, rfl, by decide +kernel, rfl, by decide +kernel, by decide +kernel⟩
theorem bd__law_words_of : BindOk "_law_words_of" "_law_words_of" s__law_words_of ["_law_number"] := fun _ _ _ _ _ _ us hl => match us, hl with | [_], _ => rfl
abbrev s__law_marks : Stmt := top 42
theorem sc__law_marks : FnScope ["_law_spot", "_law_marks_here", "_law_number"] ["_law_spot"] (defScope s__law_marks) := ⟨rfl, rfl, rfl, by decide +kernel, rfl, by decide +kernel, by decide +kernel⟩
theorem bd__law_marks : BindOk "_law_marks" "_law_marks" s__law_marks ["_law_spot"] := fun _ _ _ _ _ _ us hl => match us, hl with | [_], _ => rfl
abbrev s__law_above : Stmt := top 43
theorem sc__law_above : FnScope ["_law_number", "_law_more"] ["_law_number"] (defScope s__law_above) := ⟨rfl, rfl, rfl, by decide +kernel, rfl, by decide +kernel, by decide +kernel⟩
theorem bd__law_above : BindOk "_law_above" "_law_above" s__law_above ["_law_number"] := fun _ _ _ _ _ _ us hl => match us, hl with | [_], _ => rfl
abbrev s__law_done : Stmt := top 44
theorem sc__law_done : FnScope ["_law_pen_here", "_law_spot", "_law_words_here", "_law_state", "_law_pick", "_law_later", "_law_ends"] ["_law_pen_here", "_law_spot", "_law_words_here", "_law_state"] (defScope s__law_done) := ⟨rfl, rfl, rfl, by decide +kernel, rfl, by decide +kernel, by decide +kernel⟩
theorem bd__law_done : BindOk "_law_done" "_law_done" s__law_done ["_law_pen_here", "_law_spot", "_law_words_here", "_law_state"] := fun _ _ _ _ _ _ us hl => match us, hl with | [_, _, _, _], _ => rfl
abbrev s_law : Stmt := top 45
theorem sc_law : FnScope ["_law_script", "_law_pen_here", "_law_numbers", "_law_turn", "_law_states", "_law_number", "_law_bits", "_law_state", "_law_spot", "_law_one", "_law_told", "_law_fresh", "_law_marks_here", "_law_at"] ["_law_script"] (defScope s_law) := ⟨rfl, rfl, rfl, by decide +kernel, rfl, by decide +kernel, by decide +kernel⟩
theorem bd_law : BindOk "law" "law" s_law ["_law_script"] := fun _ _ _ _ _ _ us hl => match us, hl with | [_], _ => rfl
abbrev s_InvalidWord___init__ : Stmt := inClass (top 2) 0
/-! ### values of many kinds -/
def OvO (o : HO) (d : PyData) : Prop := (o = .tup [] ∧ d = .tuple []) ∨ (o = .tup [.int 1] ∧ d = .tuple [.int 1]) ∨ (o = .lst [.int 0] ∧ d = .list [.int 0]) ∨ (o = .dK [] ∧ d = .dict [])
def Ov (H : Hp) (x : V) (d : PyData) : Prop := (x = .non ∧ d = .none) ∨ (∃ b, x = .bl b ∧ d = .bool b) ∨ (∃ i, x = .int i ∧ d = .int i) ∨ (∃ z, x = .str z ∧ d = .str z) ∨ ∃ a o, x = .ref a ∧ H a = some o ∧ OvO o d
theorem oS {H : Hp} (z : Str) : Ov H (.str z) (.str z) := .inr (.inr (.inr (.inl ⟨z, rfl, rfl⟩)))
theorem oI {H : Hp} (z : Int) : Ov H (.int z) (.int z) := .inr (.inr (.inl ⟨z, rfl, rfl⟩))
theorem oB {H : Hp} (z : Bool) : Ov H (.bl z) (.bool z) := .inr (.inl ⟨z, rfl, rfl⟩)
theorem oR {H : Hp} {a : Addr} {o : HO} {d : PyData} (h : H a = some o) (k : OvO o d) : Ov H (.ref a) d := .inr (.inr (.inr (.inr ⟨a, o, rfl, h, k⟩)))
theorem Ov.da {H : Hp} {x : V} {d : PyData} (h : Ov H x d) : Da H x d := by
  rcases h with ⟨rfl, rfl⟩ | ⟨b, rfl, rfl⟩ | ⟨i, rfl, rfl⟩ | ⟨z, rfl, rfl⟩ | ⟨a, o, rfl, ha, h⟩
  · exact .non
  · exact .bl b
  · exact .int i
  · exact .str z
  · rcases h with ⟨rfl, rfl⟩ | ⟨rfl, rfl⟩ | ⟨rfl, rfl⟩ | ⟨rfl, rfl⟩
    · exact .tup ha .nil
    · exact .tup ha (.cons (.int _) .nil)
    · exact .lst ha (.cons (.int _) .nil)
    · exact .dict0 ha
theorem Ov.dn {H : Hp} {x : V} {d : PyData} (h : Ov H x d) (k : d.hasDict = true) : Dn H x d := by
  rcases h with ⟨rfl, rfl⟩ | ⟨b, rfl, rfl⟩ | ⟨i, rfl, rfl⟩ | ⟨z, rfl, rfl⟩ | ⟨a, o, rfl, ha, h⟩
  · simp [PyData.hasDict] at k
  · simp [PyData.hasDict] at k
  · simp [PyData.hasDict] at k
  · simp [PyData.hasDict] at k
  · rcases h with ⟨rfl, rfl⟩ | ⟨rfl, rfl⟩ | ⟨rfl, rfl⟩ | ⟨rfl, rfl⟩
    · simp [PyData.hasDict, PyData.hasDictAll] at k
    · simp [PyData.hasDict, PyData.hasDictAll] at k
    · simp [PyData.hasDict, PyData.hasDictAll] at k
    · exact .dict0 ha
theorem Ov.same {H H' : Hp} {x : V} {d : PyData} (s : Same H H') (h : Ov H x d) : Ov H' x d := by
  rcases h with h | h | h | h | ⟨a, o, e, ha, h⟩
  · exact .inl h
  · exact .inr (.inl h)
  · exact .inr (.inr (.inl h))
  · exact .inr (.inr (.inr (.inl h)))
  · exact .inr (.inr (.inr (.inr ⟨a, o, e, s _ _ ha, h⟩)))
def isI : V → Bool | .int _ => true | _ => false
def isB : V → Bool | .bl _ => true | _ => false
def isBit : V → Bool | .int i => decide (0 ≤ i) && decide (i ≤ 1) | _ => false
theorem ov_ty {K : PySem.W.Frag} {H : Hp} {x : V} {d : PyData} (h : Ov H x d) : ∃ t, TyX K H x (.type t) ∧ kitB t "int" = some (isI x || isB x) ∧ kitB t "bool" = some (isB x) := by
  rcases h with ⟨rfl, rfl⟩ | ⟨b, rfl, rfl⟩ | ⟨i, rfl, rfl⟩ | ⟨z, rfl, rfl⟩ | ⟨a, o, rfl, ha, h⟩
  · exact ⟨_, .base .non, by decide +kernel, by decide +kernel⟩
  · exact ⟨_, .base (.bl b), by cases b <;> decide +kernel, by cases b <;> decide +kernel⟩
  · exact ⟨"int", .base (.int i), show kitB "int" "int" = some true by decide +kernel, show kitB "int" "bool" = some false by decide +kernel⟩
  · exact ⟨"str", .base (.str z), show kitB "str" "int" = some false by decide +kernel, show kitB "str" "bool" = some false by decide +kernel⟩
  · rcases h with ⟨rfl, rfl⟩ | ⟨rfl, rfl⟩ | ⟨rfl, rfl⟩ | ⟨rfl, rfl⟩
    · exact ⟨"tuple", .base (.tup ha), show kitB "tuple" "int" = some false by decide +kernel, show kitB "tuple" "bool" = some false by decide +kernel⟩
    · exact ⟨"tuple", .base (.tup ha), show kitB "tuple" "int" = some false by decide +kernel, show kitB "tuple" "bool" = some false by decide +kernel⟩
    · exact ⟨"list", .base (.lst ha), show kitB "list" "int" = some false by decide +kernel, show kitB "list" "bool" = some false by decide +kernel⟩
    · exact ⟨"dict", .base (.dK ha), show kitB "dict" "int" = some false by decide +kernel, show kitB "dict" "bool" = some false by decide +kernel⟩
structure B1 (mg : Str → Option Value) : Prop where
  g_int : mg "int" = none
  g_len : mg "len" = none
  g_abs : mg "abs" = none
  g_list : mg "list" = none
  g_repr : mg "repr" = none
  g_range : mg "range" = none
  g_str : mg "str" = none
  g_isinstance : mg "isinstance" = none
  g_bool : mg "bool" = none
  g_tuple : mg "tuple" = none
def tErrV (E : XK) (H : Hp) (c : Addr) (v : V) : Prop := ∀ (dd : Addr) (H' : Hp), Same H H' → H' dd = some (.xd [("value", v)]) → E (.ref c) (some dd) H'
def spIsInt : Sp := fun vs H Q _ => ∃ (x : V) (d : PyData), vs = [x] ∧ Ov H x d ∧ Q (.bl (isI x)) H
def spFull : Sp := fun vs H Q _ => vs = [.int 1] ∧ Q (.int 1) H
def spIsWord : Sp := fun vs H Q _ => ∃ (x : V) (d : PyData), vs = [x, .int 1] ∧ Ov H x d ∧ Q (.bl (isBit x)) H
/-- what a wrong bit does, or what goes on -/
def Bits (c0 : Addr) (H : Hp) (E : XK) (x : V) (ok : Int → Prop) : Prop := ∃ d, Ov H x d ∧ (isBit x = false → tErrV E H c0 x) ∧ ∀ b, x = .int b → (b = 0 ∨ b = 1) → ok b
def spCW (c0 : Addr) : Sp := fun vs H Q E => ∃ x : V, vs = [x, .int 1] ∧ Bits c0 H E x fun _ => Q .non H
section
variable {P : Program} {w : World} {K : PySem.W.Frag} {mg : Str → Option Value} {base : Heap} {c0 f0 : Addr}
theorem pass_no {X : Cx} : Passes (L2.CX X.prog X.w) X (fun _ _ _ => False) := fun _ _ _ _ _ _ _ h => by
  obtain ⟨_, _, _, _, _, _, _, _, _, _, _, _, z⟩ := h
  exact z.elim
theorem ok_is_int (D : DefAt K mg "is_int" s_is_int ["value"]) (B : B1 mg) : Cal P w K mg base 1 "is_int" spIsInt := by
  refine D.cal sc_is_int (fun vs H Q E h => ?_) (fun f cdv A outer s H vs Q E rm gd h => ?_)
  · obtain ⟨x, d, rfl, _⟩ := h
    rfl
  · obtain ⟨x, d, rfl, ov, q⟩ := h
    obtain ⟨t, ty, k1, k2⟩ := ov_ty (K := K) ov
    refine ⟨_, (pss_one (ps_ret (pe_and (pe_callB call_isi (by rfl) B.g_isinstance (by decide +kernel) (pa_cons (pv 0) (pa_cons (pe_bltn (v := .ty "int") rfl B.g_int (by decide +kernel) rfl) pa_nil))) (pe_one (pe_not (pe_callB call_isi (by rfl) B.g_isinstance (by decide +kernel) (pa_cons (pv 0) (pa_cons (pe_bltn (v := .ty "bool") rfl B.g_bool (by decide +kernel) rfl) pa_nil)))))))), ?_⟩
    walk_at "go"
    refine ⟨x, .ty "int", .type t, .type "int", _, rfl, .ty _, ty, kit_ty k1, _, rfl, ?_⟩
    have e : isI x = ((isI x || isB x) && !(isB x)) := by cases x <;> rfl
    rw [e] at q
    cases h : (isI x || isB x) with
    | false =>
      rw [h] at q
      exact iteF q
    | true =>
      rw [h] at q
      refine iteT ?_
      walk_at "go"
      exact ⟨x, .ty "bool", .type t, .type "bool", _, rfl, .ty _, ty, kit_ty k2, _, rfl, q⟩
theorem ok_full_word (D : DefAt K mg "full_word" s_full_word ["size"]) : Cal P w K mg base 1 "full_word" spFull := by
  refine D.cal sc_full_word (fun vs H Q E h => ?_) (fun f cdv A outer s H vs Q E rm gd h => ?_)
  · obtain ⟨rfl, _⟩ := h
    rfl
  · obtain ⟨rfl, q⟩ := h
    refine ⟨_, (pss_one (ps_ret (pe_op op_sub (pe_op op_shl pe_int (pv 0)) pe_int))), ?_⟩
    walk_at "go"
    refine w_shl ⟨by decide, by decide, by decide⟩ ?_
    walk_at "go"
    exact q
theorem ok_is_word (D : DefAt K mg "is_word" s_is_word ["value", "size"]) (cis_int : Cal P w K mg base 1 "is_int" spIsInt) (cfull_word : Cal P w K mg base 1 "full_word" spFull) : Cal P w K mg base 2 "is_word" spIsWord := by
  refine D.cal sc_is_word (fun vs H Q E h => ?_) (fun f cdv A outer s H vs Q E rm gd h => ?_)
  · obtain ⟨x, d, rfl, _⟩ := h
    rfl
  · obtain ⟨x, d, rfl, ov, q⟩ := h
    refine ⟨_, (pss_one (ps_ret (pe_and (pc cis_int rm (by decide) gd rfl (pa_cons (pv 0) pa_nil)) (pe_one (pe_chain op_le op_le pe_int (pv 0) (pc cfull_word rm (by decide) gd rfl (pa_cons (pv 1) pa_nil))))))), ?_⟩
    walk_at "go"
    refine ⟨_, _, rfl, ov, _, rfl, ?_⟩
    cases x with
    | int v =>
      have q : Q (.bl (decide (0 ≤ v) && decide (v ≤ 1))) H := q
      refine iteT ?_
      walk_at "go"
      cases h : decide (0 ≤ v) with
      | false =>
        rw [h] at q
        exact iteF q
      | true =>
        rw [h] at q
        refine iteT ?_
        walk_at "go"
        refine ⟨rfl, ?_⟩
        walk_at "go"
        exact q
    | _ => exact iteF q
theorem ok_check_word (D : DefAt K mg "check_word" s_check_word ["value", "size"]) (gE : mg "InvalidWord" = some (.ref c0)) (TE : ErrC P K c0 f0 "InvalidWord.__init__" "value" "value" (defArgs s_InvalidWord___init__) (defBody s_InvalidWord___init__) (defScope s_InvalidWord___init__))
    (TX : ErrX s_InvalidWord___init__ "InvalidWord.__init__" "value" "value") (cis_word : Cal P w K mg base 2 "is_word" spIsWord) : CalX P w K mg base 3 "check_word" ["value", "size"] (spCW c0) := by
  refine D.calX (k := 2) sc_check_word (fun vs H Q E h => ?_) (fun f cdv A outer s H vs Q E rm gd h => ?_)
  · obtain ⟨x, rfl, _⟩ := h
    rfl
  · obtain ⟨x, rfl, d, ov, q1, q⟩ := h
    refine ⟨_, (pss_one (ps_if (pt_not (pt_val (pc cis_word rm (by decide) gd rfl (pa_cons (pv 0) (pa_cons (pv 1) pa_nil)))))
      (pss_one (ps_raise rfl takes_cx (pmk_errX TE TX (k := 0) (rm.mono (by decide)) rfl gE (pa_cons (pv 0) pa_nil))))
      pss_nil)), ?_⟩
    walk_at "go"
    refine ⟨x, d, rfl, ov, _, rfl, ?_⟩
    cases h : isBit x with
    | false =>
      refine iteT ?_
      refine w_cons (w_var rfl (w_nil ⟨x, rfl, fun dd H6 nd hd keep => q1 h dd H6 (fun b o e => ?_) hd⟩))
      exact (keep b (ne_of_none e nd)).trans e
    | true =>
      refine iteF ?_
      walk_at "go"
      cases x with
      | int i =>
        have h : (decide (0 ≤ i) && decide (i ≤ 1)) = true := h
        simp only [Bool.and_eq_true, decide_eq_true_eq] at h
        exact q i rfl (by omega)
      | _ => cases h
end
/-! ### kinds -/
def RD : List Str := ["keep", "take"]
def WR : List Str := ["store", "clear1", "clear0", "set1", "flip1", "once", "none"]
def DV : List Str := ["still", "raise", "end", "drift"]
def kf (r w d : Str) (st : Addr) : List (Str × V) := [("reading", .str r), ("writing", .str w), ("device", .str d), ("states", .ref st)]
def stL (w : Str) : List V := if w = "once" then [.int 0, .int 1, .int 2, .int 3] else [.int 0, .int 1]
def KindAt (C : Addr) (H : Hp) (k : Addr) (r w d : Str) : Prop := ∃ dx st, H k = some (.ins C dx (kf r w d st)) ∧ H st = some (.tup (stL w))
/-- the table of writings: for the value v and the bit b -/
def tabV (w : Str) (v b : Int) : Int :=
  if w = "store" then b else if w = "clear1" then (if b = 1 then 0 else v) else if w = "clear0" then (if b = 1 then v else 0) else if w = "set1" then (if b = 1 then 1 else v)
  else if w = "flip1" then (if b = 1 then 1 - v else v) else if w = "once" then 2 + b else v
def invL (d : Str) : List V := if d = "raise" then [.int 0] else if d = "end" then [.int 1] else if d = "drift" then [.int 0, .int 1] else []
def rdF (r : Str) (s : Int) : Int := if r = "take" then Builtin.bitAnd s 2 else s
def awF (w : Str) (s b : Int) : Int := if Builtin.bitAnd s 2 = 0 then tabV w (Builtin.bitAnd s 1) b else s
def dvF (d : Str) (s : Int) : List V := if inV (.int (Builtin.bitAnd s 1)) (invL d) = true then [.int (Builtin.bitXor s 1)] else []
def St4 (s : Int) : Prop := s = 0 ∨ s = 1 ∨ s = 2 ∨ s = 3
structure KT (K : PySem.W.Frag) (w : World) (mg : Str → Option Value) (C aW aI : Addr) (mc : Value) : Prop where
  g_Kind : mg "Kind" = some (.ref C)
  g_SPENT : ∃ t, mg "SPENT" = some (.int 2 t)
  g_WRITES : mg "WRITES" = some (.ref aW)
  g_INVERTED : mg "INVERTED" = some (.ref aI)
  g_isinstance : mg "isinstance" = none
  cl : Cls K C
  nR : NoAttr K C "reading"
  nW : NoAttr K C "writing"
  nD : NoAttr K C "device"
  nS : NoAttr K C "states"
  rd : ClX.CRead K C mc
  cR : ∃ a, ClX.CVal K C mc "READINGS" (.ref a) (.ref a) ∧ KTup K a (RD.map V.str)
  cW : ∃ a, ClX.CVal K C mc "WRITINGS" (.ref a) (.ref a) ∧ KTup K a (WR.map V.str)
  cD : ∃ a, ClX.CVal K C mc "DEVICES" (.ref a) (.ref a) ∧ KTup K a (DV.map V.str)
  tW : ∀ x ∈ WR, ∃ t t0 t1, KDct K w aW x (.ref t) ∧ KTup K t [.ref t0, .ref t1] ∧ KTup K t0 [.int (tabV x 0 0), .int (tabV x 0 1)] ∧ KTup K t1 [.int (tabV x 1 0), .int (tabV x 1 1)]
  tI : ∀ x ∈ DV, ∃ t, KDct K w aI x (.ref t) ∧ KTup K t (invL x)
  isC : PySem.W.findIn K (.ref C) "__class__" = some (some (.builtin "object.__class__"))
  isG : PySem.W.specialIn K (.builtin "object.__class__") "__get__" = some (some (.builtin "getset_descriptor.__get__"))
  isT : PySem.W.takesIn K (.builtin "object.__class__") = some true
  isM : PySem.W.mroIn K C (.type "object") = some true
/-! ### promises -/
def spInit (C : Addr) : Sp := fun vs H Q _ => ∃ (x dx : Addr) (r w d : Str), vs = [.ref x, .str r, .str w, .str d] ∧ H x = some (.ins C dx []) ∧ r ∈ RD ∧ w ∈ WR ∧ d ∈ DV ∧
  ∀ H', KindAt C H' x r w d → (∀ b o, H b = some o → b ≠ x → H' b = some o) → Q .non H'
def spAR (C : Addr) : Sp := fun vs H Q _ => ∃ (k : Addr) (r w d : Str) (s : Int), vs = [.ref k, .int s] ∧ KindAt C H k r w d ∧ Q (.int (rdF r s)) H
def spUN (C : Addr) : Sp := fun vs H Q _ => ∃ (k : Addr) (r w d : Str) (s b : Int), vs = [.ref k, .int s, .int b] ∧ KindAt C H k r w d ∧ w ∈ WR ∧ St4 s ∧ (b = 0 ∨ b = 1) ∧ Q (.int (tabV w (Builtin.bitAnd s 1) b)) H
def spAW (C : Addr) : Sp := fun vs H Q _ => ∃ (k : Addr) (r w d : Str) (s b : Int), vs = [.ref k, .int s, .int b] ∧ KindAt C H k r w d ∧ w ∈ WR ∧ St4 s ∧ (b = 0 ∨ b = 1) ∧ Q (.int (awF w s b)) H
def spDE (C : Addr) : Sp := fun vs H Q _ => ∃ (k : Addr) (r w d : Str) (s : Int), vs = [.ref k, .int s] ∧ KindAt C H k r w d ∧ d ∈ DV ∧ St4 s ∧ ∀ t H', H t = none → H' t = some (.tup (dvF d s)) → Same H H' → Q (.ref t) H'
def spEQ (C : Addr) : Sp := fun vs H Q _ => ∃ (k j : Addr) (r w d r' w' d' : Str), vs = [.ref k, .ref j] ∧ KindAt C H k r w d ∧ KindAt C H j r' w' d' ∧ Q (.bl (decide (r = r') && decide (w = w') && decide (d = d'))) H
def spST (C : Addr) : Sp := fun vs H Q _ => ∃ (k : Addr) (r w d : Str), vs = [.ref k] ∧ KindAt C H k r w d ∧ r ∈ RD ∧ w ∈ WR ∧ d ∈ DV ∧ Q (.str (Str.empty ++ r ++ " " ++ w ++ " " ++ d)) H
section
variable {P : Program} {w : World} {K : PySem.W.Frag} {mg : Str → Option Value} {base : Heap} {C aW aI : Addr} {mc : Value}
theorem ok_AR {f : Addr} (D : MetAt K C "after_read" "Kind.after_read" s_Kind_after_read ["self", "state"] f) (T : KT K w mg C aW aI mc) : ∃ fd, Meth K C "after_read" f ∧ Fun K "after_read" "Kind.after_read" s_Kind_after_read f fd ∧ Binds K fd ["self", "state"] [] ∧ Gd P w K mg base CX0 1 f fd ["self", "state"] (spAR C) := by
  refine D.gd sc_Kind_after_read (fun vs H Q E h => ?_) (fun cdv A outer s H vs Q E rm gd h => ?_)
  · obtain ⟨k, r, w, d, s, rfl, _⟩ := h
    rfl
  · obtain ⟨k, r, w, d, s, rfl, ⟨dx, st, hk, hs⟩, q⟩ := h
    obtain ⟨tS, gS⟩ := T.g_SPENT
    have cl := T.cl
    have nR := T.nR
    refine ⟨_, (pss_cons (ps_if (pt_cmpR op_eq (pe_fld (pv 0) rfl) pe_str (nomark _))
      (pss_one (ps_ret (pe_op op_and (pv 1) (pe_glob (v := .int 2) rfl gS ⟨_, rfl⟩))))
      pss_nil)
    (pss_one (ps_ret (pv 1)))), ?_⟩
    walk_at "go"
    refine ite2 (fun h => ?_) (fun h => ?_)
    · have e : r = "take" := V.str.inj (of_decide_eq_true h)
      walk_at "go"
      unfold rdF at q
      rw [if_pos e] at q
      exact q
    · have e : ¬ r = "take" := fun z => h (decide_eq_true (congrArg V.str z))
      walk_at "go"
      unfold rdF at q
      rw [if_neg e] at q
      exact q
theorem ok_UN {f : Addr} (D : MetAt K C "unguarded" "Kind.unguarded" s_Kind_unguarded ["self", "state", "bit"] f) (T : KT K w mg C aW aI mc) : ∃ fd, Meth K C "unguarded" f ∧ Fun K "unguarded" "Kind.unguarded" s_Kind_unguarded f fd ∧ Binds K fd ["self", "state", "bit"] [] ∧ Gd P w K mg base CX0 1 f fd ["self", "state", "bit"] (spUN C) := by
  refine D.gd sc_Kind_unguarded (fun vs H Q E h => ?_) (fun cdv A outer s H vs Q E rm gd h => ?_)
  · obtain ⟨k, r, w, d, s, b, rfl, _⟩ := h
    rfl
  · obtain ⟨k, r, wr, d, s, b, rfl, ⟨dx, st, hk, hs⟩, hw, h4, hb, q⟩ := h
    obtain ⟨t, t0, t1, kd, kt, k0, k1⟩ := T.tW wr hw
    have cl := T.cl
    have nW := T.nW
    refine ⟨_, (pss_cons (ps_set (i := 3) sc_Kind_unguarded.nd rfl (Or.inl rfl) (pe_ix ix_kdict (pe_glob (v := .ref aW) rfl T.g_WRITES rfl) (pe_fld (pv 0) rfl) (fun _ _ => rfl)))
    (pss_one (ps_ret (pe_ix ix_tup (pe_ix ix_tup (pv 3) (pe_op op_and (pv 1) pe_int) (fun _ _ => rfl)) (pv 2) (fun _ _ => rfl))))), ?_⟩
    walk_at "go"
    refine w_kd kd ?_
    walk_at "go"
    have h2 : Builtin.bitAnd s 1 = 0 ∨ Builtin.bitAnd s 1 = 1 := by
      rcases h4 with rfl | rfl | rfl | rfl <;> decide
    rcases h2 with e | e <;> rw [e] at q ⊢
    · refine w_ixT (kt.t _) rfl ?_
      walk_at "go"
      rcases hb with rfl | rfl
      · exact w_ixT (k0.t _) rfl q
      · exact w_ixT (k0.t _) rfl q
    · refine w_ixT (kt.t _) rfl ?_
      walk_at "go"
      rcases hb with rfl | rfl
      · exact w_ixT (k1.t _) rfl q
      · exact w_ixT (k1.t _) rfl q
theorem ok_AW {f u : Addr} (D : MetAt K C "after_write" "Kind.after_write" s_Kind_after_write ["self", "state", "bit"] f) (T : KT K w mg C aW aI mc) (mU : Met P w K mg base 1 C "unguarded" u (spUN C)) :
    ∃ fd, Meth K C "after_write" f ∧ Fun K "after_write" "Kind.after_write" s_Kind_after_write f fd ∧ Binds K fd ["self", "state", "bit"] [] ∧ Gd P w K mg base CX0 2 f fd ["self", "state", "bit"] (spAW C) := by
  refine D.gd sc_Kind_after_write (fun vs H Q E h => ?_) (fun cdv A outer s H vs Q E rm gd h => ?_)
  · obtain ⟨k, r, w, d, s, b, rfl, _⟩ := h
    rfl
  · obtain ⟨k, r, wr, d, s, b, rfl, ⟨dx, st, hk, hs⟩, hw, h4, hb, q⟩ := h
    obtain ⟨tS, gS⟩ := T.g_SPENT
    refine ⟨_, (pss_cons (ps_if (pt_cmpR op_ne (pe_op op_and (pv 1) (pe_glob (v := .int 2) rfl gS ⟨_, rfl⟩)) pe_int (nomark _))
      (pss_one (ps_ret (pv 1)))
      pss_nil)
    (pss_one (ps_ret (pm mU T.cl rm (by decide) gd (pv 0) (pa_cons (pv 1) (pa_cons (pv 2) pa_nil)))))), ?_⟩
    walk_at "go"
    refine ite2 (fun h => ?_) (fun h => ?_)
    · have e : ¬ Builtin.bitAnd s 2 = 0 := fun z => by
        rw [z] at h
        exact absurd h (by decide)
      walk_at "go"
      unfold awF at q
      rw [if_neg e] at q
      exact q
    · have e : Builtin.bitAnd s 2 = 0 := by
        by_cases z : Builtin.bitAnd s 2 = 0
        · exact z
        · refine absurd ?_ h
          rw [decide_eq_false (fun y => z (V.int.inj y))]
          rfl
      walk_at "go"
      unfold awF at q
      rw [if_pos e] at q
      exact ⟨k, r, wr, d, s, b, rfl, ⟨dx, st, hk, hs⟩, hw, h4, hb, q⟩
theorem ok_DE {f : Addr} (D : MetAt K C "deeds" "Kind.deeds" s_Kind_deeds ["self", "state"] f) (T : KT K w mg C aW aI mc) : ∃ fd, Meth K C "deeds" f ∧ Fun K "deeds" "Kind.deeds" s_Kind_deeds f fd ∧ Binds K fd ["self", "state"] [] ∧ Gd P w K mg base CX0 1 f fd ["self", "state"] (spDE C) := by
  refine D.gd sc_Kind_deeds (fun vs H Q E h => ?_) (fun cdv A outer s H vs Q E rm gd h => ?_)
  · obtain ⟨k, r, w, d, s, rfl, _⟩ := h
    rfl
  · obtain ⟨k, r, wr, d, s, rfl, ⟨dx, st, hk, hs⟩, hd, h4, q⟩ := h
    obtain ⟨t, kd, kt⟩ := T.tI d hd
    have cl := T.cl
    have nD := T.nD
    refine ⟨_, (pss_cons (ps_if (pt_cmpR op_in_seq (pe_op op_and (pv 1) pe_int) (pe_ix ix_kdict (pe_glob (v := .ref aI) rfl T.g_INVERTED rfl) (pe_fld (pv 0) rfl) (fun _ _ => rfl)) rfl)
      (pss_one (ps_ret (pe_tup (pa_cons (pe_op op_xor (pv 1) pe_int) pa_nil))))
      pss_nil)
    (pss_one (ps_ret (pe_tup pa_nil)))), ?_⟩
    walk_at "go"
    refine w_kd kd ?_
    refine w_in (.inr (kt.t _)) rfl ?_ ?_
    · unfold invL
      repeat' split
      all_goals rfl
    walk_at "go"
    refine ite2 (fun h => ?_) (fun h => ?_)
    · have e : inV (.int (Builtin.bitAnd s 1)) (invL d) = true := h
      walk_at "go"
      refine new (by show 1 ≤ sizeLine; decide) fun t H' nt ht s1 => ?_
      unfold dvF at q
      rw [if_pos e] at q
      exact q t H' nt ht s1
    · have e : ¬ inV (.int (Builtin.bitAnd s 1)) (invL d) = true := h
      walk_at "go"
      refine new (by show 0 ≤ sizeLine; decide) fun t H' nt ht s1 => ?_
      unfold dvF at q
      rw [if_neg e] at q
      exact q t H' nt ht s1
theorem ty_kind (T : KT K w mg C aW aI mc) {H : Hp} {k : Addr} {r wr d : Str} (h : KindAt C H k r wr d) : TyX K H (.ref k) (.ref C) := by
  obtain ⟨dx, st, hk, _⟩ := h
  exact .base (.ins hk T.cl T.isC T.isG T.isT T.isM)
theorem ok_EQ {f : Addr} (D : MetAt K C "__eq__" "Kind.__eq__" s_Kind___eq__ ["self", "other"] f) (T : KT K w mg C aW aI mc) : ∃ fd, Meth K C "__eq__" f ∧ Fun K "__eq__" "Kind.__eq__" s_Kind___eq__ f fd ∧ Binds K fd ["self", "other"] [] ∧ Gd P w K mg base CX0 1 f fd ["self", "other"] (spEQ C) := by
  refine D.gd sc_Kind___eq__ (fun vs H Q E h => ?_) (fun cdv A outer s H vs Q E rm gd h => ?_)
  · obtain ⟨k, j, r, w, d, r', w', d', rfl, _⟩ := h
    rfl
  · obtain ⟨k, j, r, wr, d, r', w', d', rfl, Hk, Hj, q⟩ := h
    obtain ⟨dx, st, hk, hs⟩ := id Hk
    obtain ⟨dy, su, hj, hu⟩ := id Hj
    have B := T
    have cl := T.cl
    have nR := T.nR
    have nW := T.nW
    have nD := T.nD
    refine ⟨_, (pss_one (ps_ret (pe_and (pe_callB call_isi (by rfl) B.g_isinstance (by decide +kernel) (pa_cons (pv 1) (pa_cons (pe_glob (v := .ref C) rfl T.g_Kind rfl) pa_nil))) (pe_and (pe_cmpR op_eq (pe_fld (pv 0) rfl) (pe_fld (pv 1) rfl) (nomark _)) (pe_and (pe_cmpR op_eq (pe_fld (pv 0) rfl) (pe_fld (pv 1) rfl) (nomark _)) (pe_one (pe_cmpR op_eq (pe_fld (pv 0) rfl) (pe_fld (pv 1) rfl) (nomark _)))))))), ?_⟩
    walk_at "go"
    refine ⟨.ref j, .ref C, .ref C, .ref C, true, rfl, .own C, ty_kind T Hj, if_pos (beq_self_eq_true _), true, rfl, ?_⟩
    refine iteT ?_
    walk_at "go"
    have dS : ∀ a b : Str, decide (V.str a = V.str b) = decide (a = b) := fun a b => by
      by_cases h : a = b
      · subst h
        rw [decide_eq_true rfl, decide_eq_true rfl]
      · rw [decide_eq_false h, decide_eq_false fun z => h (V.str.inj z)]
    rw [dS]
    by_cases h1 : r = r'
    · rw [decide_eq_true h1] at q ⊢
      refine iteT ?_
      walk_at "go"
      rw [dS]
      by_cases h2 : wr = w'
      · rw [decide_eq_true h2] at q ⊢
        refine iteT ?_
        walk_at "go"
        rw [dS]
        exact q
      · rw [decide_eq_false h2] at q ⊢
        exact iteF q
    · rw [decide_eq_false h1] at q ⊢
      exact iteF q
theorem in_mem {x : Str} : ∀ {l : List Str}, x ∈ l → inV (.str x) (l.map V.str) = true
  | [], h => absurd h List.not_mem_nil
  | y :: l, h => by
    show (eqV (.str y) (.str x) || (l.map V.str).any fun z => eqV z (.str x)) = true
    rcases List.mem_cons.mp h with e | e
    · subst e
      rw [show eqV (V.str x) (V.str x) = true from beq_self_eq_true x, Bool.true_or]
    · have := in_mem e
      unfold inV at this
      rw [this, Bool.or_true]
theorem flat_strs : ∀ l : List Str, (l.map V.str).all flatV = true
  | [] => rfl
  | _ :: l => by
    rw [List.map_cons, List.all_cons, flat_strs l]
    rfl
theorem sh_rd : ∀ x ∈ RD, x.length ≤ 10 := by decide +kernel
theorem sh_wr : ∀ x ∈ WR, x.length ≤ 10 := by decide +kernel
theorem sh_dv : ∀ x ∈ DV, x.length ≤ 10 := by decide +kernel
theorem ln {a b : Str} {n m k : Nat} (h1 : a.length ≤ n) (h2 : b.length ≤ m) (h : n + m ≤ k) : (a ++ b).length ≤ k := by
  rw [strLen_append]
  omega
theorem ok_IN {f : Addr} (D : MetAt K C "__init__" "Kind.__init__" s_Kind___init__ ["self", "reading", "writing", "device"] f) (T : KT K w mg C aW aI mc) :
    ∃ fd, Meth K C "__init__" f ∧ Fun K "__init__" "Kind.__init__" s_Kind___init__ f fd ∧ Binds K fd ["self", "reading", "writing", "device"] [] ∧ Gd P w K mg base CX0 1 f fd ["self", "reading", "writing", "device"] (spInit C) := by
  refine D.gd sc_Kind___init__ (fun vs H Q E h => ?_) (fun cdv A outer s H vs Q E rm gd h => ?_)
  · obtain ⟨x, dx, r, w, d, rfl, _⟩ := h
    rfl
  · obtain ⟨x, dx, r, wr, d, rfl, hx, hr, hw, hd, q⟩ := h
    obtain ⟨aR, cR, kR⟩ := T.cR
    obtain ⟨bW, cW, kW⟩ := T.cW
    obtain ⟨aD, cD, kD⟩ := T.cD
    have cl := T.cl
    have nR := T.nR
    have nW := T.nW
    have nD := T.nD
    have nS := T.nS
    refine ⟨_, (pss_cons (ps_for PassesOwn.never rfl (pi_tup (pe_tup (pa_cons (pe_tup (pa_cons (pv 1) (pa_cons (ClX.pe_cval (pe_glob (v := .ref C) rfl T.g_Kind rfl)) pa_nil))) (pa_cons (pe_tup (pa_cons (pv 2) (pa_cons (ClX.pe_cval (pe_glob (v := .ref C) rfl T.g_Kind rfl)) pa_nil))) (pa_cons (pe_tup (pa_cons (pv 3) (pa_cons (ClX.pe_cval (pe_glob (v := .ref C) rfl T.g_Kind rfl)) pa_nil))) pa_nil))))) (pg_tup rfl (pgs_cons (pg_name (i := 4) sc_Kind___init__.nd rfl (Or.inl rfl)) (pgs_cons (pg_name (i := 5) sc_Kind___init__.nd rfl (Or.inl rfl)) pgs_nil)))
      (pss_one (ps_if (pt_cmpR op_notIn_seq (pv 4) (pv 5) rfl)
        (pss_one ps_never)
        pss_nil)))
    (pss_cons (ps_fld (pv 0) (pv 1) rfl)
    (pss_cons (ps_fld (pv 0) (pv 2) rfl)
    (pss_cons (ps_fld (pv 0) (pv 3) rfl)
    (pss_one (ps_fld (pv 0) (pe_ifExp (pt_cmpR op_eq (pv 2) pe_str (nomark _)) (pe_tup (pa_cons pe_int (pa_cons pe_int (pa_cons pe_int (pa_cons pe_int pa_nil))))) (pe_tup (pa_cons pe_int (pa_cons pe_int pa_nil)))) rfl)))))), ?_⟩
    walk_at "go"
    refine ⟨C, mc, .ref aR, .ref aR, rfl, T.rd, cR, ?_⟩
    walk_at "go"
    refine new (by show 2 ≤ sizeLine; decide) fun t1 H1 n1 h1 s1 => ?_
    walk_at "go"
    refine ⟨C, mc, .ref bW, .ref bW, rfl, T.rd, cW, ?_⟩
    walk_at "go"
    refine new (by show 2 ≤ sizeLine; decide) fun t2 H2 n2 h2 s2 => ?_
    walk_at "go"
    refine ⟨C, mc, .ref aD, .ref aD, rfl, T.rd, cD, ?_⟩
    walk_at "go"
    refine new (by show 2 ≤ sizeLine; decide) fun t3 H3 n3 h3 s3 => ?_
    walk_at "go"
    refine new (by show 3 ≤ sizeLine; decide) fun t4 H4 n4 h4 s4 => ?_
    have sA := s1.trans (s2.trans (s3.trans s4))
    refine over_t (SqT.of h4) (for_tup (xs := [.ref t1, .ref t2, .ref t3]) (fun i σ H' => ∃ v4 v5, σ = [some (.ref x), some (.str r), some (.str wr), some (.str d), v4, v5] ∧ Same H4 H') ⟨none, none, rfl, Same.refl _⟩ (fun i σ H' _ ⟨_, _, _, z⟩ => SqT.of (z _ _ h4)) ?_ ?_)
    · rintro i y σ H' hi ⟨v4, v5, rfl, z⟩
      have one : ∀ {t a : Addr} {val : Str} {l : List Str} (ht : H4 t = some (.tup [.str val, .ref a])) (ka : KTup K a (l.map V.str)) (hm : val ∈ l) (D : Ends),
          (D.nx = fun σ H' => ∃ v4 v5, σ = [some (.ref x), some (.str r), some (.str wr), some (.str d), v4, v5] ∧ Same H4 H') → True := fun _ _ _ _ _ => trivial
      match i, hi with
      | 0, hi =>
        cases hi
        refine ⟨t1, [.str r, .ref aR], rfl, SqT.of (z _ _ (s4 _ _ (s3 _ _ (s2 _ _ h1)))), rfl, _, _, rfl, _, _, rfl, rfl, ?_⟩
        walk_at "go"
        refine w_in (.inr (kR.t _)) rfl (flat_strs _) ?_
        walk_at "go"
        rw [in_mem hr]
        refine iteF ?_
        exact ⟨_, _, rfl, z⟩
      | 1, hi =>
        cases hi
        refine ⟨t2, [.str wr, .ref bW], rfl, SqT.of (z _ _ (s4 _ _ (s3 _ _ h2))), rfl, _, _, rfl, _, _, rfl, rfl, ?_⟩
        walk_at "go"
        refine w_in (.inr (kW.t _)) rfl (flat_strs _) ?_
        walk_at "go"
        rw [in_mem hw]
        refine iteF ?_
        exact ⟨_, _, rfl, z⟩
      | 2, hi =>
        cases hi
        refine ⟨t3, [.str d, .ref aD], rfl, SqT.of (z _ _ (s4 _ _ h3)), rfl, _, _, rfl, _, _, rfl, rfl, ?_⟩
        walk_at "go"
        refine w_in (.inr (kD.t _)) rfl (flat_strs _) ?_
        walk_at "go"
        rw [in_mem hd]
        refine iteF ?_
        exact ⟨_, _, rfl, z⟩
    · rintro σ H5 ⟨v4, v5, rfl, z⟩
      have s5 := sA.trans z
      have hx5 := s5 _ _ hx
      walk_at "go"
      refine sfld hx5 cl nR (by show 0 < 1000; decide) rfl fun H6 h6 e6 => ?_
      walk_at "go"
      refine sfld h6 cl nW (by show 1 < 1000; decide) rfl fun H7 h7 e7 => ?_
      walk_at "go"
      refine sfld h7 cl nD (by show 2 < 1000; decide) rfl fun H8 h8 e8 => ?_
      walk_at "go"
      have fin : ∀ (st : Addr) (H9 H10 : Hp), H9 st = some (.tup (stL wr)) → Same H8 H9 → H10 x = some (.ins C dx (kf r wr d st)) → (∀ b, b ≠ x → H10 b = H9 b) → Q .non H10 := fun st H9 H10 hst s9 hx10 e10 => by
        have nx : st ≠ x := ne_of hst (s9 _ _ h8) (by intro y; cases y)
        refine q H10 ⟨dx, st, hx10, (e10 st nx).trans hst⟩ fun b o e nb => ?_
        rw [e10 b nb]
        refine s9 _ _ ?_
        rw [e8 b nb, e7 b nb, e6 b nb]
        exact s5 _ _ e
      refine ite2 (fun h => ?_) (fun h => ?_)
      · have e : wr = "once" := V.str.inj (of_decide_eq_true h)
        walk_at "go"
        refine new (by show 4 ≤ sizeLine; decide) fun st H9 n9 h9 s9 => ?_
        walk_at "go"
        refine sfld (s9 _ _ h8) cl nS (by show 3 < 1000; decide) rfl fun H10 h10 e10 => ?_
        exact fin st H9 H10 (by rw [h9]; unfold stL; rw [if_pos e]) s9 h10 e10
      · have e : ¬ wr = "once" := fun z => h (decide_eq_true (congrArg V.str z))
        walk_at "go"
        refine new (by show 2 ≤ sizeLine; decide) fun st H9 n9 h9 s9 => ?_
        walk_at "go"
        refine sfld (s9 _ _ h8) cl nS (by show 3 < 1000; decide) rfl fun H10 h10 e10 => ?_
        exact fin st H9 H10 (by rw [h9]; unfold stL; rw [if_neg e]) s9 h10 e10
end
/-! ### bits -/
def wordsT : Nat → Str × Str × Str
  | 0 => ("keep", "store", "still") | 1 => ("take", "store", "still") | 2 => ("keep", "clear1", "still") | 3 => ("keep", "clear0", "still") | 4 => ("keep", "set1", "still")
  | 5 => ("keep", "flip1", "still") | 6 => ("keep", "once", "still") | 7 => ("keep", "none", "still") | 8 => ("keep", "store", "raise") | 9 => ("keep", "store", "end")
  | 10 => ("keep", "store", "drift") | 11 => ("keep", "clear1", "raise") | 12 => ("take", "none", "raise") | 13 => ("keep", "set1", "end") | 14 => ("keep", "none", "drift")
  | 15 => ("take", "once", "still") | _ => ("", "", "")
abbrev pf (s : Int) : List (Str × V) := [("_state", .int s)]
abbrev pk (s : Int) (k : Addr) : List (Str × V) := [("_state", .int s), ("kind", .ref k)]
def Ch (a : Addr) (H H' : Hp) : Prop := ∀ b o, H b = some o → b ≠ a → H' b = some o
theorem Ch.of {a : Addr} {H H' : Hp} (e : ∀ b, b ≠ a → H' b = H b) : Ch a H H' := fun b o h n => (e b n).trans h
theorem Ch.refl {a : Addr} {H : Hp} : Ch a H H := fun _ _ h _ => h
theorem Ch.same {a : Addr} {H H' : Hp} (s : Same H H') : Ch a H H' := fun b o h _ => s b o h
theorem Ch.trans {a : Addr} {H H1 H2 : Hp} (x : Ch a H H1) (y : Ch a H1 H2) : Ch a H H2 := fun b o h n => y b o (x b o h n) n
def Dom (w : Str) (s : Int) : Prop := (s = 0 ∨ s = 1) ∨ (w = "once" ∧ (s = 2 ∨ s = 3))
theorem Dom.st {w : Str} {s : Int} (h : Dom w s) : St4 s := by
  unfold St4
  rcases h with h | ⟨_, h⟩ <;> omega
theorem Dom.two {w : Str} {s : Int} (h : Dom w s) (n : w ≠ "once") : s = 0 ∨ s = 1 := by
  rcases h with h | ⟨e, _⟩
  · exact h
  · exact absurd e n
def BF (KC : Addr) (H : Hp) (n : Nat) (fs : List (Str × V)) (r w d : Str) (s : Int) : Prop :=
  (n < 16 ∧ fs = (pf s) ∧ wordsT n = (r, w, d)) ∨ (n = 16 ∧ ∃ k, fs = (pk s k) ∧ KindAt KC H k r w d)
def BitAt (KC : Addr) (CL : List Addr) (H : Hp) (a : Addr) (n : Nat) (r w d : Str) (s : Int) : Prop :=
  ∃ C dx fs, CL[n]? = some C ∧ H a = some (.ins C dx fs) ∧ BF KC H n fs r w d s ∧ Dom w s ∧ r ∈ RD ∧ w ∈ WR ∧ d ∈ DV
section
variable {KC a : Addr} {CL : List Addr} {H H' : Hp} {n : Nat} {r w d : Str} {s s' : Int}
theorem BitAt.plain (hn : n < 16) (h : BitAt KC CL H a n r w d s) : ∃ C dx, CL[n]? = some C ∧ H a = some (.ins C dx (pf s)) ∧ wordsT n = (r, w, d) ∧ Dom w s ∧ r ∈ RD ∧ w ∈ WR ∧ d ∈ DV := by
  obtain ⟨C, dx, fs, h1, h2, bf, m⟩ := h
  rcases bf with ⟨_, rfl, e⟩ | ⟨e, _⟩
  · exact ⟨C, dx, h1, h2, e, m⟩
  · omega
theorem BitAt.kind (h : BitAt KC CL H a 16 r w d s) : ∃ C dx k, CL[16]? = some C ∧ H a = some (.ins C dx (pk s k)) ∧ KindAt KC H k r w d ∧ Dom w s ∧ r ∈ RD ∧ w ∈ WR ∧ d ∈ DV := by
  obtain ⟨C, dx, fs, h1, h2, bf, m⟩ := h
  rcases bf with ⟨e, _⟩ | ⟨_, k, rfl, e⟩
  · omega
  · exact ⟨C, dx, k, h1, h2, e, m⟩
theorem mk_plain {C dx : Addr} (hn : n < 16) (h1 : CL[n]? = some C) (h2 : H' a = some (.ins C dx (pf s'))) (e : wordsT n = (r, w, d)) (dm : Dom w s') (m : r ∈ RD ∧ w ∈ WR ∧ d ∈ DV) : BitAt KC CL H' a n r w d s' :=
  ⟨C, dx, _, h1, h2, .inl ⟨hn, rfl, e⟩, dm, m⟩
theorem KindAt.ch {k C dx : Addr} {fs : List (Str × V)} (ha : H a = some (.ins C dx fs)) (hl : (fs.lookup ("_state" : Str)).isSome = true) (h : KindAt KC H k r w d) (c : Ch a H H') : KindAt KC H' k r w d := by
  obtain ⟨dy, st, h1, h2⟩ := h
  refine ⟨dy, st, c _ _ h1 fun z => ?_, c _ _ h2 fun z => ?_⟩
  · rw [z, ha] at h1
    cases h1
    cases hl
  · rw [z, ha] at h2
    cases h2
theorem mk_kind {C dx k : Addr} (h1 : CL[16]? = some C) (h2 : H' a = some (.ins C dx (pk s' k))) (e : KindAt KC H' k r w d) (dm : Dom w s') (m : r ∈ RD ∧ w ∈ WR ∧ d ∈ DV) : BitAt KC CL H' a 16 r w d s' :=
  ⟨C, dx, _, h1, h2, .inr ⟨rfl, k, rfl, e⟩, dm, m⟩
end
def deB (d : Str) (s : Int) : Bool := inV (.int (Builtin.bitAnd s 1)) (invL d)
def deF (d : Str) (s : Int) : Int := if deB d s = true then Builtin.bitXor s 1 else s
theorem dom_rd {r w : Str} {s : Int} (dm : Dom w s) : Dom w (rdF r s) := by
  unfold rdF
  split
  · rcases dm with (rfl | rfl) | ⟨e, rfl | rfl⟩
    · exact .inl (.inl (by decide))
    · exact .inl (.inl (by decide))
    · exact .inr ⟨e, .inl (by decide)⟩
    · exact .inr ⟨e, .inl (by decide)⟩
  · exact dm
theorem dom_aw {w : Str} {s i : Int} (dm : Dom w s) (hw : w ∈ WR) (hi : i = 0 ∨ i = 1) : Dom w (awF w s i) := by
  unfold WR at hw
  simp only [List.mem_cons, List.not_mem_nil, or_false] at hw
  unfold Dom at *
  rcases hw with rfl | rfl | rfl | rfl | rfl | rfl | rfl <;> rcases dm with (rfl | rfl) | ⟨e, rfl | rfl⟩ <;> rcases hi with rfl | rfl <;> first | decide +kernel | exact absurd e (by decide)
structure TB (K : PySem.W.Frag) (CL : List Addr) : Prop where
  cl : ∀ (n : Nat) (C : Addr), CL[n]? = some C → Cls K C
  nS : ∀ (n : Nat) (C : Addr), CL[n]? = some C → NoAttr K C "_state"
  nK : ∀ C : Addr, CL[16]? = some C → NoAttr K C "kind"
def spNow (CL : List Addr) (n : Nat) : Sp := fun vs H Q _ => ∃ a C dx fs s, vs = [.ref a] ∧ CL[n]? = some C ∧ H a = some (.ins C dx fs) ∧ fs.lookup ("_state" : Str) = some (.int s) ∧ Q (.int (Builtin.bitAnd s 1)) H
def spSta (CL : List Addr) (n : Nat) : Sp := fun vs H Q _ => ∃ a C dx fs s, vs = [.ref a] ∧ CL[n]? = some C ∧ H a = some (.ins C dx fs) ∧ fs.lookup ("_state" : Str) = some (.int s) ∧ Q (.int s) H
def spRd (KC : Addr) (CL : List Addr) (n : Nat) : Sp := fun vs H Q _ => ∃ a r w d s, vs = [.ref a] ∧ BitAt KC CL H a n r w d s ∧ ∀ H', BitAt KC CL H' a n r w d (rdF r s) → Ch a H H' → Q (.int (Builtin.bitAnd s 1)) H'
def spWr (KC c0 : Addr) (CL : List Addr) (n : Nat) : Sp := fun vs H Q E => ∃ a r w d s x, vs = [.ref a, x] ∧ BitAt KC CL H a n r w d s ∧ Bits c0 H E x fun b => ∀ H', BitAt KC CL H' a n r w d (awF w s b) → Ch a H H' → Q .non H'
def spDd (KC : Addr) (CL : List Addr) (n : Nat) : Sp := fun vs H Q _ => ∃ a r w d s, vs = [.ref a] ∧ BitAt KC CL H a n r w d s ∧ ∀ H', BitAt KC CL H' a n r w d (deF d s) → Ch a H H' → Q (.bl (deB d s)) H'
def spBI (c0 : Addr) (CL : List Addr) : Sp := fun vs H Q E => ∃ (a : Addr) (n : Nat) (C dx : Addr) (x : V), vs = [.ref a, x] ∧ CL[n]? = some C ∧ H a = some (.ins C dx []) ∧ Bits c0 H E x fun b => ∀ H', H' a = some (.ins C dx (pf b)) → Ch a H H' → Q .non H'
def spKI (c0 : Addr) (CL : List Addr) : Sp := fun vs H Q E => ∃ a k C dx x, vs = [.ref a, .ref k, x] ∧ CL[16]? = some C ∧ H a = some (.ins C dx []) ∧ Bits c0 H E x fun b => ∀ H', H' a = some (.ins C dx (pk b k)) → Ch a H H' → Q .non H'
theorem Gd.up {P : Program} {w : World} {K : PySem.W.Frag} {mg : Str → Option Value} {base : Heap} {CX : CXT} {k : Nat} {f : Addr} {fd : FuncData} {ps : List Str} {sp : Sp} (F : Gd P w K mg base CX0 k f fd ps sp) : Gd P w K mg base CX k f fd ps sp :=
  ⟨F.len, fun A o s H a us vs Q E rm gd e0 bt rv q => codeAny_mono (F.go A o s H a us vs Q E rm gd e0 bt rv q) fun out s' h => by
    match out, h with
    | .ok (.ret u), h => exact h
    | .error e, h => exact False.elim h⟩
theorem and2 : ∀ s : Int, s = 0 ∨ s = 1 → Builtin.bitAnd s 1 = s ∧ Builtin.bitAnd s 2 = 0 := by
  rintro _ (rfl | rfl) <;> decide
section
variable {P : Program} {w : World} {K : PySem.W.Frag} {mg : Str → Option Value} {base : Heap} {C aW aI c0 : Addr} {mc : Value} {CL : List Addr} {f : Addr} {fd : FuncData} {n : Nat}
theorem ok_now (F : Fun K "now" "Bit.now" s_Bit_now f fd) (T : TB K CL) : Gd P w K mg base CX0 1 f fd ["self"] (spNow CL n) := by
  refine gd0 (k := 0) F sc_Bit_now (fun vs H Q E h => ?_) (fun cdv A outer s H vs Q E rm gd h => ?_)
  · obtain ⟨a, C, dx, fs, s, rfl, _⟩ := h
    rfl
  · obtain ⟨a, C, dx, fs, s, rfl, hC, ha, hl, q⟩ := h
    have cl := T.cl n C hC
    have nS := T.nS n C hC
    refine ⟨_, (pss_one (ps_ret (pe_op op_and (pe_fld (pv 0) rfl) pe_int))), ?_⟩
    walk_at "go"
    refine fld ha cl nS hl ?_
    walk_at "go"
    exact q
theorem ok_sta (F : Fun K "state" "Bit.state" s_Bit_state f fd) (T : TB K CL) : Gd P w K mg base CX0 1 f fd ["self"] (spSta CL n) := by
  refine gd0 (k := 0) F sc_Bit_state (fun vs H Q E h => ?_) (fun cdv A outer s H vs Q E rm gd h => ?_)
  · obtain ⟨a, C, dx, fs, s, rfl, _⟩ := h
    rfl
  · obtain ⟨a, C, dx, fs, s, rfl, hC, ha, hl, q⟩ := h
    have cl := T.cl n C hC
    have nS := T.nS n C hC
    refine ⟨_, (pss_one (ps_ret (pe_fld (pv 0) rfl))), ?_⟩
    walk_at "go"
    exact fld ha cl nS hl q
theorem ok_bread (F : Fun K "read" "Bit.read" s_Bit_read f fd) (dNow : DProp P w K mg base 1 CL "now" (spNow CL)) : Gd P w K mg base CX0 3 f fd ["self"] (spNow CL n) := by
  refine gd0 (k := 2) F sc_Bit_read (fun vs H Q E h => ?_) (fun cdv A outer s H vs Q E rm gd h => ?_)
  · obtain ⟨a, C, dx, fs, s, rfl, _⟩ := h
    rfl
  · obtain ⟨a, C, dx, fs, s, rfl, hC, ha, hl, q⟩ := h
    refine ⟨_, (pss_one (ps_ret (pe_dprop (E := fun _ _ _ => False) (pv 0) dNow (rm.mono (by decide)) (Nat.le_refl _) gd))), ?_⟩
    walk_at "go"
    exact w_dynP (w_var rfl ⟨a, n, C, dx, _, rfl, hC, ha, a, C, dx, _, s, rfl, hC, ha, hl, q⟩)
theorem bread_keep (G : Gd P w K mg base CX0 3 f fd ["self"] (spNow CL n)) (hn : n < 16) (hk : (wordsT n).1 = "keep") : Gd P w K mg base CX0 3 f fd ["self"] (spRd C CL n) :=
  G.imp fun vs H Q E h => by
    obtain ⟨a, r, wr, d, s, rfl, b, q⟩ := h
    obtain ⟨C', dx, hC, ha, e, _⟩ := b.plain hn
    rw [e] at hk
    have hk : r = "keep" := hk
    refine ⟨a, C', dx, _, s, rfl, hC, ha, rfl, q H ?_ Ch.refl⟩
    unfold rdF
    rw [if_neg (by rw [hk]; decide)]
    exact b
def spD1 (CL : List Addr) (v : Int) (n : Nat) : Sp := fun vs H Q _ => ∃ a C dx, vs = [.ref a] ∧ CL[n]? = some C ∧ H a = some (.ins C dx (pf v)) ∧ ∀ H', H' a = some (.ins C dx (pf (deF (wordsT n).2.2 v))) → Ch a H H' → Q (.bl (deB (wordsT n).2.2 v)) H'
theorem ok_bdeed1 (F : Fun K "deed" "Bit.deed" s_Bit_deed f fd) {v : Int} (hk : deB (wordsT n).2.2 v = false) : Gd P w K mg base CX0 1 f fd ["self"] (spD1 CL v n) := by
  refine gd0 (k := 0) F sc_Bit_deed (fun vs H Q E h => ?_) (fun cdv A outer s H vs Q E rm gd h => ?_)
  · obtain ⟨a, C, dx, rfl, _⟩ := h
    rfl
  · obtain ⟨a, C, dx, rfl, hC, ha, q⟩ := h
    have ef : deF (wordsT n).2.2 v = v := by
      unfold deF
      rw [hk]
      rfl
    rw [hk, ef] at q
    refine ⟨_, (pss_one (ps_ret pe_bl)), ?_⟩
    walk_at "go"
    exact q H ha Ch.refl
theorem ok_bdeed (F : Fun K "deed" "Bit.deed" s_Bit_deed f fd) (hn : n < 16) (hk : (wordsT n).2.2 = "still") : Gd P w K mg base CX0 1 f fd ["self"] (spDd C CL n) := by
  refine gd0 (k := 0) F sc_Bit_deed (fun vs H Q E h => ?_) (fun cdv A outer s H vs Q E rm gd h => ?_)
  · obtain ⟨a, r, w, d, s, rfl, _⟩ := h
    rfl
  · obtain ⟨a, r, wr, d, s, rfl, b, q⟩ := h
    obtain ⟨C', dx, hC, ha, e, _⟩ := b.plain hn
    rw [e] at hk
    have hk : d = "still" := hk
    have hf : deB d s = false := by
      rw [hk]
      rfl
    rw [hf] at q
    refine ⟨_, (pss_one (ps_ret pe_bl)), ?_⟩
    walk_at "go"
    refine q H ?_ Ch.refl
    unfold deF
    rw [hf]
    exact b
theorem ok_bwrite (F : Fun K "write" "Bit.write" s_Bit_write f fd) (T : TB K CL) (cCw : CalX P w K mg base 3 "check_word" ["value", "size"] (spCW c0)) (hn : n < 16) (hk : (wordsT n).2.1 = "store") : Gd P w K mg base (L2.CX P w) 4 f fd ["self", "bit"] (spWr C c0 CL n) := by
  refine gdX (k := 3) F sc_Bit_write (fun vs H Q E h => ?_) (fun cdv A outer s H vs Q E rm gd h => ?_)
  · obtain ⟨a, r, w, d, s, x, rfl, _⟩ := h
    rfl
  · obtain ⟨a, r, wr, d, s, x, rfl, b, dv, ov, er, q⟩ := h
    obtain ⟨C', dx, hC, ha, e, dm, m⟩ := b.plain hn
    have cl := T.cl n C' hC
    have nS := T.nS n C' hC
    rw [e] at hk
    have hk : wr = "store" := hk
    subst hk
    refine ⟨_, (pss_cons (ps_expr (pcX cCw pass_cx rm (by decide) gd rfl (pa_cons (pv 1) (pa_cons pe_int pa_nil))))
    (pss_one (ps_fld (pv 0) (pv 1) rfl))), ?_⟩
    walk_at "go"
    refine ⟨x, rfl, dv, ov, er, fun i ei hi => ?_⟩
    have q2 : ∀ H', BitAt C CL H' a n r _ d (awF _ s i) → Ch a H H' → Q .non H' := q i ei hi
    clear q
    subst ei
    walk_at "go"
    have two := dm.two (by decide)
    refine sfld ha cl nS (by show 1 < 1000; decide) rfl fun H6 h6 e6 => ?_
    have ea : awF "store" s i = i := by
      rcases two with rfl | rfl <;> rcases hi with rfl | rfl <;> decide +kernel
    rw [ea] at q2
    exact q2 H6 (mk_plain hn hC h6 e (.inl hi) m) (Ch.of e6)
theorem ok_clr (F : Fun K "write" "ClearedBit.write" s_ClearedBit_write f fd) (T : TB K CL) (cCw : CalX P w K mg base 3 "check_word" ["value", "size"] (spCW c0)) (hn : n < 16) (hk : (wordsT n).2.1 = "clear1") : Gd P w K mg base (L2.CX P w) 4 f fd ["self", "bit"] (spWr C c0 CL n) := by
  refine gdX (k := 3) F sc_ClearedBit_write (fun vs H Q E h => ?_) (fun cdv A outer s H vs Q E rm gd h => ?_)
  · obtain ⟨a, r, w, d, s, x, rfl, _⟩ := h
    rfl
  · obtain ⟨a, r, wr, d, s, x, rfl, b, dv, ov, er, q⟩ := h
    obtain ⟨C', dx, hC, ha, e, dm, m⟩ := b.plain hn
    have cl := T.cl n C' hC
    have nS := T.nS n C' hC
    rw [e] at hk
    have hk : wr = "clear1" := hk
    subst hk
    refine ⟨_, (pss_cons (ps_expr (pcX cCw pass_cx rm (by decide) gd rfl (pa_cons (pv 1) (pa_cons pe_int pa_nil))))
    (pss_one (ps_if (pt_cmpR op_eq (pv 1) pe_int (nomark _))
      (pss_one (ps_fld (pv 0) pe_int rfl))
      pss_nil))), ?_⟩
    walk_at "go"
    refine ⟨x, rfl, dv, ov, er, fun i ei hi => ?_⟩
    have q2 : ∀ H', BitAt C CL H' a n r _ d (awF _ s i) → Ch a H H' → Q .non H' := q i ei hi
    clear q
    subst ei
    walk_at "go"
    have two := dm.two (by decide)
    rcases hi with rfl | rfl
    · refine ite2 (fun h => absurd h (by decide)) fun _ => ?_
      walk_at "go"
      refine q2 H ?_ Ch.refl
      rw [show awF "clear1" s 0 = s by rcases two with rfl | rfl <;> decide +kernel]
      exact b
    · refine ite2 (fun _ => ?_) fun h => absurd (by decide) h
      walk_at "go"
      refine sfld ha cl nS (by show 1 < 1000; decide) rfl fun H6 h6 e6 => ?_
      rw [show awF "clear1" s 1 = 0 by rcases two with rfl | rfl <;> decide +kernel] at q2
      exact q2 H6 (mk_plain hn hC h6 e (.inl (by omega)) m) (Ch.of e6)
theorem ok_zcl (F : Fun K "write" "ZeroClearedBit.write" s_ZeroClearedBit_write f fd) (T : TB K CL) (cCw : CalX P w K mg base 3 "check_word" ["value", "size"] (spCW c0)) (hn : n < 16) (hk : (wordsT n).2.1 = "clear0") : Gd P w K mg base (L2.CX P w) 4 f fd ["self", "bit"] (spWr C c0 CL n) := by
  refine gdX (k := 3) F sc_ZeroClearedBit_write (fun vs H Q E h => ?_) (fun cdv A outer s H vs Q E rm gd h => ?_)
  · obtain ⟨a, r, w, d, s, x, rfl, _⟩ := h
    rfl
  · obtain ⟨a, r, wr, d, s, x, rfl, b, dv, ov, er, q⟩ := h
    obtain ⟨C', dx, hC, ha, e, dm, m⟩ := b.plain hn
    have cl := T.cl n C' hC
    have nS := T.nS n C' hC
    rw [e] at hk
    have hk : wr = "clear0" := hk
    subst hk
    refine ⟨_, (pss_cons (ps_expr (pcX cCw pass_cx rm (by decide) gd rfl (pa_cons (pv 1) (pa_cons pe_int pa_nil))))
    (pss_one (ps_if (pt_cmpR op_eq (pv 1) pe_int (nomark _))
      (pss_one (ps_fld (pv 0) pe_int rfl))
      pss_nil))), ?_⟩
    walk_at "go"
    refine ⟨x, rfl, dv, ov, er, fun i ei hi => ?_⟩
    have q2 : ∀ H', BitAt C CL H' a n r _ d (awF _ s i) → Ch a H H' → Q .non H' := q i ei hi
    clear q
    subst ei
    walk_at "go"
    have two := dm.two (by decide)
    rcases hi with rfl | rfl
    · refine ite2 (fun _ => ?_) fun h => absurd (by decide) h
      walk_at "go"
      refine sfld ha cl nS (by show 1 < 1000; decide) rfl fun H6 h6 e6 => ?_
      rw [show awF "clear0" s 0 = 0 by rcases two with rfl | rfl <;> decide +kernel] at q2
      exact q2 H6 (mk_plain hn hC h6 e (.inl (by omega)) m) (Ch.of e6)
    · refine ite2 (fun h => absurd h (by decide)) fun _ => ?_
      walk_at "go"
      refine q2 H ?_ Ch.refl
      rw [show awF "clear0" s 1 = s by rcases two with rfl | rfl <;> decide +kernel]
      exact b
theorem ok_set (F : Fun K "write" "SetBit.write" s_SetBit_write f fd) (T : TB K CL) (cCw : CalX P w K mg base 3 "check_word" ["value", "size"] (spCW c0)) (hn : n < 16) (hk : (wordsT n).2.1 = "set1") : Gd P w K mg base (L2.CX P w) 4 f fd ["self", "bit"] (spWr C c0 CL n) := by
  refine gdX (k := 3) F sc_SetBit_write (fun vs H Q E h => ?_) (fun cdv A outer s H vs Q E rm gd h => ?_)
  · obtain ⟨a, r, w, d, s, x, rfl, _⟩ := h
    rfl
  · obtain ⟨a, r, wr, d, s, x, rfl, b, dv, ov, er, q⟩ := h
    obtain ⟨C', dx, hC, ha, e, dm, m⟩ := b.plain hn
    have cl := T.cl n C' hC
    have nS := T.nS n C' hC
    rw [e] at hk
    have hk : wr = "set1" := hk
    subst hk
    refine ⟨_, (pss_cons (ps_expr (pcX cCw pass_cx rm (by decide) gd rfl (pa_cons (pv 1) (pa_cons pe_int pa_nil))))
    (pss_one (ps_if (pt_cmpR op_eq (pv 1) pe_int (nomark _))
      (pss_one (ps_fld (pv 0) pe_int rfl))
      pss_nil))), ?_⟩
    walk_at "go"
    refine ⟨x, rfl, dv, ov, er, fun i ei hi => ?_⟩
    have q2 : ∀ H', BitAt C CL H' a n r _ d (awF _ s i) → Ch a H H' → Q .non H' := q i ei hi
    clear q
    subst ei
    walk_at "go"
    have two := dm.two (by decide)
    rcases hi with rfl | rfl
    · refine ite2 (fun h => absurd h (by decide)) fun _ => ?_
      walk_at "go"
      refine q2 H ?_ Ch.refl
      rw [show awF "set1" s 0 = s by rcases two with rfl | rfl <;> decide +kernel]
      exact b
    · refine ite2 (fun _ => ?_) fun h => absurd (by decide) h
      walk_at "go"
      refine sfld ha cl nS (by show 1 < 1000; decide) rfl fun H6 h6 e6 => ?_
      rw [show awF "set1" s 1 = 1 by rcases two with rfl | rfl <;> decide +kernel] at q2
      exact q2 H6 (mk_plain hn hC h6 e (.inl (by omega)) m) (Ch.of e6)
theorem ok_flp (F : Fun K "write" "FlippedBit.write" s_FlippedBit_write f fd) (T : TB K CL) (cCw : CalX P w K mg base 3 "check_word" ["value", "size"] (spCW c0)) (hn : n < 16) (hk : (wordsT n).2.1 = "flip1") : Gd P w K mg base (L2.CX P w) 4 f fd ["self", "bit"] (spWr C c0 CL n) := by
  refine gdX (k := 3) F sc_FlippedBit_write (fun vs H Q E h => ?_) (fun cdv A outer s H vs Q E rm gd h => ?_)
  · obtain ⟨a, r, w, d, s, x, rfl, _⟩ := h
    rfl
  · obtain ⟨a, r, wr, d, s, x, rfl, b, dv, ov, er, q⟩ := h
    obtain ⟨C', dx, hC, ha, e, dm, m⟩ := b.plain hn
    have cl := T.cl n C' hC
    have nS := T.nS n C' hC
    rw [e] at hk
    have hk : wr = "flip1" := hk
    subst hk
    refine ⟨_, (pss_cons (ps_expr (pcX cCw pass_cx rm (by decide) gd rfl (pa_cons (pv 1) (pa_cons pe_int pa_nil))))
    (pss_one (ps_fld (pv 0) (pe_op op_xor (pe_fld (pv 0) rfl) (pv 1)) rfl))), ?_⟩
    walk_at "go"
    refine ⟨x, rfl, dv, ov, er, fun i ei hi => ?_⟩
    have q2 : ∀ H', BitAt C CL H' a n r _ d (awF _ s i) → Ch a H H' → Q .non H' := q i ei hi
    clear q
    subst ei
    walk_at "go"
    have two := dm.two (by decide)
    refine sfld ha cl nS (by show 1 < 1000; decide) rfl fun H6 h6 e6 => ?_
    have ea : awF "flip1" s i = Builtin.bitXor s i ∧ (Builtin.bitXor s i = 0 ∨ Builtin.bitXor s i = 1) := by
      rcases two with rfl | rfl <;> rcases hi with rfl | rfl <;> decide +kernel
    rw [ea.1] at q2
    exact q2 H6 (mk_plain hn hC h6 e (.inl ea.2) m) (Ch.of e6)
theorem ok_onc (F : Fun K "write" "OnceBit.write" s_OnceBit_write f fd) (T : TB K CL) (cCw : CalX P w K mg base 3 "check_word" ["value", "size"] (spCW c0)) (gSp : ∃ t, mg "SPENT" = some (.int 2 t)) (hn : n < 16) (hk : (wordsT n).2.1 = "once") : Gd P w K mg base (L2.CX P w) 4 f fd ["self", "bit"] (spWr C c0 CL n) := by
  refine gdX (k := 3) F sc_OnceBit_write (fun vs H Q E h => ?_) (fun cdv A outer s H vs Q E rm gd h => ?_)
  · obtain ⟨a, r, w, d, s, x, rfl, _⟩ := h
    rfl
  · obtain ⟨a, r, wr, d, s, x, rfl, b, dv, ov, er, q⟩ := h
    obtain ⟨C', dx, hC, ha, e, dm, m⟩ := b.plain hn
    have cl := T.cl n C' hC
    have nS := T.nS n C' hC
    rw [e] at hk
    have hk : wr = "once" := hk
    subst hk
    obtain ⟨tS, gS⟩ := gSp
    refine ⟨_, (pss_cons (ps_expr (pcX cCw pass_cx rm (by decide) gd rfl (pa_cons (pv 1) (pa_cons pe_int pa_nil))))
    (pss_one (ps_if (pt_cmpR op_eq (pe_op op_and (pe_fld (pv 0) rfl) (pe_glob (v := .int 2) rfl gS ⟨_, rfl⟩)) pe_int (nomark _))
      (pss_one (ps_fld (pv 0) (pe_op op_add (pv 1) (pe_glob (v := .int 2) rfl gS ⟨_, rfl⟩)) rfl))
      pss_nil))), ?_⟩
    walk_at "go"
    refine ⟨x, rfl, dv, ov, er, fun i ei hi => ?_⟩
    have q2 : ∀ H', BitAt C CL H' a n r _ d (awF _ s i) → Ch a H H' → Q .non H' := q i ei hi
    clear q
    subst ei
    walk_at "go"
    have ew : awF "once" s i = if Builtin.bitAnd s 2 = 0 then 2 + i else s := by
      unfold awF
      by_cases h : Builtin.bitAnd s 2 = 0
      · rw [if_pos h, if_pos h]
        have : ∀ v b : Int, tabV "once" v b = 2 + b := fun v b => by
          unfold tabV
          rw [if_neg (by decide), if_neg (by decide), if_neg (by decide), if_neg (by decide), if_neg (by decide), if_pos rfl]
        exact this _ _
      · rw [if_neg h, if_neg h]
    rw [ew] at q2
    refine ite2 (fun h => ?_) (fun h => ?_)
    · have h0 : Builtin.bitAnd s 2 = 0 := V.int.inj (of_decide_eq_true h)
      walk_at "go"
      refine sfld ha cl nS (by show 1 < 1000; decide) rfl fun H6 h6 e6 => ?_
      rw [if_pos h0, Int.add_comm] at q2
      exact q2 H6 (mk_plain hn hC h6 e (.inr ⟨rfl, by omega⟩) m) (Ch.of e6)
    · have h0 : ¬ Builtin.bitAnd s 2 = 0 := fun z => h (decide_eq_true (congrArg V.int z))
      walk_at "go"
      rw [if_neg h0] at q2
      exact q2 H b Ch.refl
theorem ok_def (F : Fun K "write" "DeafBit.write" s_DeafBit_write f fd) (T : TB K CL) (cCw : CalX P w K mg base 3 "check_word" ["value", "size"] (spCW c0)) (hn : n < 16) (hk : (wordsT n).2.1 = "none") : Gd P w K mg base (L2.CX P w) 4 f fd ["self", "bit"] (spWr C c0 CL n) := by
  refine gdX (k := 3) F sc_DeafBit_write (fun vs H Q E h => ?_) (fun cdv A outer s H vs Q E rm gd h => ?_)
  · obtain ⟨a, r, w, d, s, x, rfl, _⟩ := h
    rfl
  · obtain ⟨a, r, wr, d, s, x, rfl, b, dv, ov, er, q⟩ := h
    obtain ⟨C', dx, hC, ha, e, dm, m⟩ := b.plain hn
    have cl := T.cl n C' hC
    have nS := T.nS n C' hC
    rw [e] at hk
    have hk : wr = "none" := hk
    subst hk
    refine ⟨_, (pss_one (ps_expr (pcX cCw pass_cx rm (by decide) gd rfl (pa_cons (pv 1) (pa_cons pe_int pa_nil))))), ?_⟩
    walk_at "go"
    refine ⟨x, rfl, dv, ov, er, fun i ei hi => ?_⟩
    have q2 : ∀ H', BitAt C CL H' a n r _ d (awF _ s i) → Ch a H H' → Q .non H' := q i ei hi
    clear q
    subst ei
    walk_at "go"
    have two := dm.two (by decide)
    rw [show awF "none" s i = s by rcases two with rfl | rfl <;> rcases hi with rfl | rfl <;> decide +kernel] at q2
    exact q2 H b Ch.refl
theorem ok_binit (F : FunD K "__init__" "Bit.__init__" (defArgs s_Bit___init__) (defBody s_Bit___init__) (defScope s_Bit___init__) [.int 0] [] f fd) (T : TB K CL) (cCw : CalX P w K mg base 3 "check_word" ["value", "size"] (spCW c0)) : Gd P w K mg base (L2.CX P w) 4 f fd ["self", "value"] (spBI c0 CL) := by
  refine gdD (k := 3) F sc_Bit___init__ (fun vs H Q E h => ?_) (fun cdv A outer s H vs Q E rm gd h => ?_)
  · obtain ⟨a, n, C, dx, x, rfl, _⟩ := h
    rfl
  · obtain ⟨a, n, C', dx, x, rfl, hC, ha, dv, ov, er, q⟩ := h
    have cl := T.cl n C' hC
    have nS := T.nS n C' hC
    refine ⟨_, (pss_cons (ps_expr (pcX cCw pass_cx rm (by decide) gd rfl (pa_cons (pv 1) (pa_cons pe_int pa_nil))))
    (pss_one (ps_fld (pv 0) (pv 1) rfl))), ?_⟩
    walk_at "go"
    refine ⟨x, rfl, dv, ov, er, fun i ei hi => ?_⟩
    have q2 := q i ei hi
    clear q
    subst ei
    walk_at "go"
    exact sfld ha cl nS (by show 0 < 1000; decide) rfl fun H6 h6 e6 => q2 H6 h6 (Ch.of e6)
theorem ok_kread (F : Fun K "read" "KindBit.read" s_KindBit_read f fd) (T : TB K CL) (TK : Cls K C) {fr : Addr} (dNow : DProp P w K mg base 1 CL "now" (spNow CL)) (mAR : Met P w K mg base 1 C "after_read" fr (spAR C)) : Gd P w K mg base CX0 3 f fd ["self"] (spRd C CL 16) := by
  refine gd0 (k := 2) F sc_KindBit_read (fun vs H Q E h => ?_) (fun cdv A outer s H vs Q E rm gd h => ?_)
  · obtain ⟨a, r, w, d, s, rfl, _⟩ := h
    rfl
  · obtain ⟨a, r, wr, d, s, rfl, b, q⟩ := h
    obtain ⟨C', dx, k, hC, ha, hk, dm, m⟩ := b.kind
    have cl := T.cl 16 C' hC
    have nS := T.nS 16 C' hC
    have nK := T.nK C' hC
    refine ⟨_, (pss_cons (ps_set (i := 1) sc_KindBit_read.nd rfl (Or.inl rfl) (pe_dprop (E := fun _ _ _ => False) (pv 0) dNow (rm.mono (by decide)) (Nat.le_refl _) gd))
    (pss_cons (ps_fld (pv 0) (pm mAR TK (rm.mono (by decide)) (Nat.le_refl _) gd (pe_fld (pv 0) rfl) (pa_cons (pe_fld (pv 0) rfl) pa_nil)) rfl)
    (pss_one (ps_ret (pv 1))))), ?_⟩
    walk_at "go"
    refine w_dynP (w_var rfl ⟨a, 16, C', dx, _, rfl, hC, ha, a, C', dx, _, s, rfl, hC, ha, rfl, ?_⟩)
    walk_at "go"
    obtain ⟨dy, st, h1, h2⟩ := id hk
    refine ⟨k, dy, _, rfl, h1, rfl, ?_⟩
    walk_at "go"
    refine ⟨k, r, wr, d, s, rfl, hk, ?_⟩
    walk_at "go"
    refine sfld ha cl nS (by show 2 < 1000; decide) rfl fun H6 h6 e6 => ?_
    walk_at "go"
    exact q H6 (mk_kind hC h6 (hk.ch ha rfl (Ch.of e6)) (dom_rd dm) m) (Ch.of e6)
theorem ok_kwrite (F : Fun K "write" "KindBit.write" s_KindBit_write f fd) (T : TB K CL) (TK : Cls K C) {fr : Addr} (cCw : CalX P w K mg base 3 "check_word" ["value", "size"] (spCW c0)) (mAW : Met P w K mg base 2 C "after_write" fr (spAW C)) : Gd P w K mg base (L2.CX P w) 4 f fd ["self", "bit"] (spWr C c0 CL 16) := by
  refine gdX (k := 3) F sc_KindBit_write (fun vs H Q E h => ?_) (fun cdv A outer s H vs Q E rm gd h => ?_)
  · obtain ⟨a, r, w, d, s, x, rfl, _⟩ := h
    rfl
  · obtain ⟨a, r, wr, d, s, x, rfl, b, dv, ov, er, q⟩ := h
    obtain ⟨C', dx, k, hC, ha, hk, dm, m⟩ := b.kind
    have cl := T.cl 16 C' hC
    have nS := T.nS 16 C' hC
    have nK := T.nK C' hC
    refine ⟨_, (pss_cons (ps_expr (pcX cCw pass_cx rm (by decide) gd rfl (pa_cons (pv 1) (pa_cons pe_int pa_nil))))
    (pss_one (ps_fld (pv 0) (pm mAW TK (rm.mono (by decide)) (Nat.le_refl _) gd (pe_fld (pv 0) rfl) (pa_cons (pe_fld (pv 0) rfl) (pa_cons (pv 1) pa_nil))) rfl))), ?_⟩
    walk_at "go"
    refine ⟨x, rfl, dv, ov, er, fun i ei hi => ?_⟩
    have q2 : ∀ H', BitAt C CL H' a 16 r wr d (awF wr s i) → Ch a H H' → Q .non H' := q i ei hi
    clear q
    subst ei
    walk_at "go"
    obtain ⟨dy, st, h1, h2⟩ := id hk
    refine ⟨k, dy, _, rfl, h1, rfl, ?_⟩
    walk_at "go"
    refine ⟨k, r, wr, d, s, i, rfl, hk, m.2.1, dm.st, hi, ?_⟩
    walk_at "go"
    refine sfld ha cl nS (by show 2 < 1000; decide) rfl fun H6 h6 e6 => ?_
    exact q2 H6 (mk_kind hC h6 (hk.ch ha rfl (Ch.of e6)) (dom_aw dm m.2.1 hi) m) (Ch.of e6)
theorem ok_kdeed (F : Fun K "deed" "KindBit.deed" s_KindBit_deed f fd) (T : TB K CL) (TK : Cls K C) {fr : Addr} (mDE : Met P w K mg base 1 C "deeds" fr (spDE C)) : Gd P w K mg base CX0 3 f fd ["self"] (spDd C CL 16) := by
  refine gd0 (k := 2) F sc_KindBit_deed (fun vs H Q E h => ?_) (fun cdv A outer s H vs Q E rm gd h => ?_)
  · obtain ⟨a, r, w, d, s, rfl, _⟩ := h
    rfl
  · obtain ⟨a, r, wr, d, s, rfl, b, q⟩ := h
    obtain ⟨C', dx, k, hC, ha, hk, dm, m⟩ := b.kind
    have cl := T.cl 16 C' hC
    have nS := T.nS 16 C' hC
    have nK := T.nK C' hC
    refine ⟨_, (pss_cons (ps_set (i := 1) sc_KindBit_deed.nd rfl (Or.inl rfl) (pm mDE TK (rm.mono (by decide)) (Nat.le_refl _) gd (pe_fld (pv 0) rfl) (pa_cons (pe_fld (pv 0) rfl) pa_nil)))
    (pss_cons (ps_if (pt_cmpR (op_eqD rm.units) (pv 1) (pe_tup pa_nil) (nomark _))
      (pss_one (ps_ret pe_bl))
      pss_nil)
    (pss_cons (ps_fld (pv 0) (pe_ix ix_tup (pv 1) pe_int (fun _ _ => rfl)) rfl)
    (pss_one (ps_ret pe_bl))))), ?_⟩
    walk_at "go"
    obtain ⟨dy, st, h1, h2⟩ := id hk
    refine ⟨k, dy, _, rfl, h1, rfl, ?_⟩
    walk_at "go"
    refine ⟨k, r, wr, d, s, rfl, hk, m.2.2, dm.st, fun t H2 nt ht s2 => ?_⟩
    walk_at "go"
    refine new (by show 0 ≤ sizeLine; decide) fun t3 H3 n3 h3 s3 => ?_
    have dv : dvF d s = if deB d s = true then [.int (Builtin.bitXor s 1)] else [] := rfl
    have ht3 := s3 _ _ ht
    have ha3 := s3 _ _ (s2 _ _ ha)
    cases hd : deB d s with
    | false =>
      rw [dv, hd] at ht3
      rw [hd] at q
      refine ⟨.tuple [], .tuple [], .tup (SqT.of ht3) .nil, .tup (SqT.of h3) .nil, by decide +kernel, by decide +kernel, ?_⟩
      rw [show PyData.eqv (.tuple []) (.tuple []) = true by decide +kernel]
      refine ⟨_, rfl, iteT ?_⟩
      walk_at "go"
      have c3 : Ch a H H3 := Ch.same (s2.trans s3)
      have ef : deF d s = s := by
        unfold deF
        rw [hd]
        rfl
      rw [ef] at q
      exact q H3 (mk_kind hC ha3 (hk.ch ha rfl c3) dm m) c3
    | true =>
      rw [dv, hd] at ht3
      have ht3 : H3 t = some (.tup [.int (Builtin.bitXor s 1)]) := ht3
      rw [hd] at q
      refine ⟨.tuple [.int (Builtin.bitXor s 1)], .tuple [], .tup (SqT.of ht3) (.cons (.int _) .nil), .tup (SqT.of h3) .nil, by simp [SeqAt.shaped, PyData.canLay0, PyData.canLayAll0, PyData.depth, PyData.depthAll], by decide +kernel, ?_⟩
      rw [show PyData.eqv (.tuple [.int (Builtin.bitXor s 1)]) (.tuple []) = false by simp [PyData.eqv, PyData.eqvAll]]
      refine ⟨_, rfl, iteF ?_⟩
      walk_at "go"
      refine sfld ha3 cl nS (by show 2 < 1000; decide) rfl fun H6 h6 e6 => ?_
      walk_at "go"
      have c3 : Ch a H H6 := (Ch.same (s2.trans s3)).trans (Ch.of e6)
      have ef : deF d s = Builtin.bitXor s 1 := by
        unfold deF
        rw [hd]
        rfl
      rw [ef] at q
      have dx1 : Dom wr (Builtin.bitXor s 1) := by
        rcases dm with (rfl | rfl) | ⟨e, rfl | rfl⟩
        · exact .inl (.inr (by decide))
        · exact .inl (.inl (by decide))
        · exact .inr ⟨e, .inr (by decide)⟩
        · exact .inr ⟨e, .inl (by decide)⟩
      exact q H6 (mk_kind hC h6 (hk.ch ha rfl c3) dx1 m) c3
/-! .. those that say super() -/
theorem ok_tread {D gR : Addr} {fdR : FuncData} (F : FunS P K "read" "TakenBit.read" s_TakenBit_read f D fd) (T : TB K CL) (gSp : ∃ t, mg "SPENT" = some (.int 2 t)) (hn : n < 16) (hk : (wordsT n).1 = "take") (U : ∀ C', CL[n]? = some C' → UpAt K C' D "read" gR)
    (GR : Gd P w K mg base (L2.CX P w) 3 gR fdR ["self"] (spNow CL n)) (bR : Binds K fdR ["self"] []) : Gd P w K mg base (L2.CX P w) 4 f fd ["self"] (spRd C CL n) := by
  refine gdS_of (k := 3) F sc_TakenBit_read (fun vs H Q E h => ?_) (fun cda cc A outer s0 s1 H vs Q E rm gd h sf I => ?_)
  · obtain ⟨a, r, w, d, s, rfl, _⟩ := h
    rfl
  · obtain ⟨a, r, wr, d, s, rfl, b, q⟩ := h
    obtain ⟨C', dx, hC, ha, e, dm, m⟩ := b.plain hn
    obtain ⟨dV, kV, doc, pm, ct, an, SF⟩ := sf
    have cl := T.cl n C' hC
    have nS := T.nS n C' hC
    obtain ⟨tS, gS⟩ := gSp
    rw [e] at hk
    have hk : r = "take" := hk
    refine ks_wpAt_execs_cons (ks_wpAt_Assign_Name (ks_wpAt_mono (sup_run0 (Q := fun v H' => v = .int (Builtin.bitAnd s 1) ∧ H' = H) sc_TakenBit_read SF rfl rfl (by decide +kernel) (by decide) I rfl ha (U C' hC) GR bR rm gd ⟨a, C', dx, _, s, rfl, hC, ha, rfl, rfl, rfl⟩) (fun u s2 z => ?_) (fun e s2 z => z)))
    obtain ⟨v, H2, J, rv, rfl, rfl⟩ := z
    refine store_ok (i := 1) J (show (["self", "value"] : List Str).Nodup by decide +kernel) rfl (Or.inl rfl) rv (fun s3 J3 => ?_)
    have er : rdF r s = Builtin.bitAnd s 2 := by
      unfold rdF
      rw [if_pos hk]
    have rest : ∃ t, PSs (cxS P w K mg base ["self", "value"] "TakenBit.read" (defScope s_TakenBit_read) f cda cc A outer s0 H2 E) ((defBody s_TakenBit_read).drop 1) t ∧ t { nx := fun _ H' => Q .non H', rt := Q } [some (.ref a), some (.int (Builtin.bitAnd s 1))] H2 := by
      refine ⟨_, (pss_cons (ps_fld (pv 0) (pe_op op_and (pe_fld (pv 0) rfl) (pe_glob (v := .int 2) rfl gS ⟨_, rfl⟩)) rfl)
    (pss_one (ps_ret (pv 1)))), ?_⟩
      walk_at "go"
      refine sfld ha cl nS (by show 1 < 1000; decide) rfl fun H6 h6 e6 => ?_
      walk_at "go"
      have dr := dom_rd (r := r) dm
      rw [er] at q dr
      exact q H6 (mk_plain hn hC h6 e dr m) (Ch.of e6)
    obtain ⟨t, h1, h2⟩ := rest
    exact wpAt_of_wpAny (h1.run [] s3 _ H2 _ J3 h2)
theorem not_once : ∀ n : Nat, n < 16 → (wordsT n).2.2 ≠ "still" → (wordsT n).2.1 ≠ "once" := by decide +kernel
theorem ok_rdeed {D gU : Addr} {k : Nat} {fdU : FuncData} (F : FunS P K "deed" "RaisedBit.deed" s_RaisedBit_deed f D fd) (T : TB K CL) (dNow : DProp P w K mg base 1 CL "now" (spNow CL)) (hn : n < 16) (hk : (wordsT n).2.2 = "raise" ∨ (wordsT n).2.2 = "drift") (U : ∀ C', CL[n]? = some C' → UpAt K C' D "deed" gU)
    (GU : Gd P w K mg base (L2.CX P w) 4 gU fdU ["self"] (spD1 CL 1 n)) (bU : Binds K fdU ["self"] []) : Gd P w K mg base (L2.CX P w) 5 f fd ["self"] (spDd C CL n) := by
  refine gdS_of (k := 4) F sc_RaisedBit_deed (fun vs H Q E h => ?_) (fun cda cc A outer s0 s1 H vs Q E rm gd h sf I => ?_)
  · obtain ⟨a, r, w, d, s, rfl, _⟩ := h
    rfl
  · obtain ⟨a, r, wr, d, s, rfl, b, q⟩ := h
    obtain ⟨C', dx, hC, ha, e, dm, m⟩ := b.plain hn
    obtain ⟨dV, kV, doc, pm, ct, an, SF⟩ := sf
    have cl := T.cl n C' hC
    have nS := T.nS n C' hC
    have no := not_once n hn (by rcases hk with h | h <;> rw [h] <;> decide)
    rw [e] at hk no
    have hk : d = "raise" ∨ d = "drift" := hk
    have two := dm.two no
    refine ks_wpAt_execs_cons (ks_wpAt_If (wpAt_of_wpAny (wpAny_mono (PT.run (t := _) ((pt_cmpR op_eq (pe_dprop (E := fun _ _ _ => False) (pv 0) dNow (rm.mono (by decide)) (Nat.le_refl _) gd) pe_int (nomark _))) [] s1 _ H (fun bb H' => bb = decide (s = 1) ∧ H' = H) I ?_) (fun bb s2 z => ?_) fun e s2 z => z)))
    · walk_at "go"
      refine w_dynP (w_var rfl ⟨a, n, C', dx, _, rfl, hC, ha, a, C', dx, _, s, rfl, hC, ha, rfl, ?_⟩)
      walk_at "go"
      rcases two with rfl | rfl
      · exact ⟨rfl, rfl⟩
      · exact ⟨rfl, rfl⟩
    obtain ⟨H2, J, rfl, rfl⟩ := z
    rcases two with rfl | rfl
    · refine wpAt_of_wpAny (wpAny_execs_nil ?_)
      have rest : ∃ t, PSs (cxS P w K mg base ["self"] "RaisedBit.deed" (defScope s_RaisedBit_deed) f cda cc A outer s0 H2 E) ((defBody s_RaisedBit_deed).drop 1) t ∧ t { nx := fun _ H' => Q .non H', rt := Q } (start ["self"] [.ref a]) H2 := by
        refine ⟨_, (pss_cons (ps_fld (pv 0) (pe_op op_add (pe_fld (pv 0) rfl) pe_int) rfl)
    (pss_one (ps_ret pe_bl))), ?_⟩
        walk_at "go"
        refine sfld ha cl nS (by show 1 < 1000; decide) rfl fun H6 h6 e6 => ?_
        walk_at "go"
        have eb : deB d 0 = true ∧ deF d 0 = 1 := by rcases hk with rfl | rfl <;> decide +kernel
        rw [eb.1, eb.2] at q
        exact q H6 (mk_plain hn hC h6 e (.inl (.inr rfl)) m) (Ch.of e6)
      obtain ⟨t, h1, h2⟩ := rest
      exact wpAt_of_wpAny (h1.run [] s2 _ H2 _ J h2)
    · refine ks_wpAt_execs_cons (ks_wpAt_Return_some (ks_wpAt_mono (sup_run0 (Q := Q) sc_RaisedBit_deed SF rfl rfl (by decide +kernel) (by decide) J rfl ha (U C' hC) GU bU rm gd ⟨a, C', dx, rfl, hC, ha, fun H' h' c => ?_⟩) (fun u s3 z => ?_) (fun e s3 z => z)))
      · have d1 : Dom wr (deF d 1) := by rcases hk with rfl | rfl <;> exact .inl (by decide +kernel)
        rw [e] at h'
        rw [e]
        exact q H' (mk_plain hn hC h' e d1 m) c
      · obtain ⟨v, H3, J3, rv, q3⟩ := z
        exact ⟨v, _, H3, J3, rv, q3⟩
theorem ok_edeed1 {D : Addr} (F : FunS P K "deed" "EndedBit.deed" s_EndedBit_deed f D fd) (T : TB K CL) (dNow : DProp P w K mg base 1 CL "now" (spNow CL)) (hk : (wordsT n).2.2 = "drift") : Gd P w K mg base (L2.CX P w) 4 f fd ["self"] (spD1 CL 1 n) := by
  refine gdS_of (k := 3) F sc_EndedBit_deed (fun vs H Q E h => ?_) (fun cda cc A outer s0 s1 H vs Q E rm gd h sf I => ?_)
  · obtain ⟨a, C, dx, rfl, _⟩ := h
    rfl
  · obtain ⟨a, C', dx, rfl, hC, ha, q⟩ := h
    have cl := T.cl n C' hC
    have nS := T.nS n C' hC
    refine ks_wpAt_execs_cons (ks_wpAt_If (wpAt_of_wpAny (wpAny_mono (PT.run (t := _) ((pt_cmpR op_eq (pe_dprop (E := fun _ _ _ => False) (pv 0) dNow (rm.mono (by decide)) (Nat.le_refl _) gd) pe_int (nomark _))) [] s1 _ H (fun bb H' => bb = false ∧ H' = H) I ?_) (fun bb s2 z => ?_) fun e s2 z => z)))
    · walk_at "go"
      refine w_dynP (w_var rfl ⟨a, n, C', dx, _, rfl, hC, ha, a, C', dx, _, 1, rfl, hC, ha, rfl, ?_⟩)
      walk_at "go"
      exact ⟨rfl, rfl⟩
    obtain ⟨H2, J, rfl, rfl⟩ := z
    refine wpAt_of_wpAny (wpAny_execs_nil ?_)
    have rest : ∃ t, PSs (cxS P w K mg base ["self"] "EndedBit.deed" (defScope s_EndedBit_deed) f cda cc A outer s0 H2 E) ((defBody s_EndedBit_deed).drop 1) t ∧ t { nx := fun _ H' => Q .non H', rt := Q } (start ["self"] [.ref a]) H2 := by
      refine ⟨_, (pss_cons (ps_fld (pv 0) (pe_op op_sub (pe_fld (pv 0) rfl) pe_int) rfl)
    (pss_one (ps_ret pe_bl))), ?_⟩
      walk_at "go"
      refine sfld ha cl nS (by show 1 < 1000; decide) rfl fun H6 h6 e6 => ?_
      walk_at "go"
      rw [hk] at q
      exact q H6 h6 (Ch.of e6)
    obtain ⟨t, h1, h2⟩ := rest
    exact wpAt_of_wpAny (h1.run [] s2 _ H2 _ J h2)
theorem ok_edeed {D gU : Addr} {k : Nat} {fdU : FuncData} (F : FunS P K "deed" "EndedBit.deed" s_EndedBit_deed f D fd) (T : TB K CL) (dNow : DProp P w K mg base 1 CL "now" (spNow CL)) (hn : n < 16) (hk : (wordsT n).2.2 = "end") (U : ∀ C', CL[n]? = some C' → UpAt K C' D "deed" gU)
    (GU : Gd P w K mg base (L2.CX P w) 4 gU fdU ["self"] (spD1 CL 0 n)) (bU : Binds K fdU ["self"] []) : Gd P w K mg base (L2.CX P w) 5 f fd ["self"] (spDd C CL n) := by
  refine gdS_of (k := 4) F sc_EndedBit_deed (fun vs H Q E h => ?_) (fun cda cc A outer s0 s1 H vs Q E rm gd h sf I => ?_)
  · obtain ⟨a, r, w, d, s, rfl, _⟩ := h
    rfl
  · obtain ⟨a, r, wr, d, s, rfl, b, q⟩ := h
    obtain ⟨C', dx, hC, ha, e, dm, m⟩ := b.plain hn
    obtain ⟨dV, kV, doc, pm, ct, an, SF⟩ := sf
    have cl := T.cl n C' hC
    have nS := T.nS n C' hC
    have no := not_once n hn (by rw [hk]; decide)
    rw [e] at hk no
    have hk : d = "end" := hk
    have two := dm.two no
    refine ks_wpAt_execs_cons (ks_wpAt_If (wpAt_of_wpAny (wpAny_mono (PT.run (t := _) ((pt_cmpR op_eq (pe_dprop (E := fun _ _ _ => False) (pv 0) dNow (rm.mono (by decide)) (Nat.le_refl _) gd) pe_int (nomark _))) [] s1 _ H (fun bb H' => bb = decide (s = 0) ∧ H' = H) I ?_) (fun bb s2 z => ?_) fun e s2 z => z)))
    · walk_at "go"
      refine w_dynP (w_var rfl ⟨a, n, C', dx, _, rfl, hC, ha, a, C', dx, _, s, rfl, hC, ha, rfl, ?_⟩)
      walk_at "go"
      rcases two with rfl | rfl
      · exact ⟨rfl, rfl⟩
      · exact ⟨rfl, rfl⟩
    obtain ⟨H2, J, rfl, rfl⟩ := z
    rcases two with rfl | rfl
    · refine ks_wpAt_execs_cons (ks_wpAt_Return_some (ks_wpAt_mono (sup_run0 (Q := Q) sc_EndedBit_deed SF rfl rfl (by decide +kernel) (by decide) J rfl ha (U C' hC) GU bU rm gd ⟨a, C', dx, rfl, hC, ha, fun H' h' c => ?_⟩) (fun u s3 z => ?_) (fun e s3 z => z)))
      · have d1 : Dom wr (deF d 0) := by rw [hk]; exact .inl (by decide +kernel)
        rw [e] at h'
        rw [e]
        exact q H' (mk_plain hn hC h' e d1 m) c
      · obtain ⟨v, H3, J3, rv, q3⟩ := z
        exact ⟨v, _, H3, J3, rv, q3⟩
    · refine wpAt_of_wpAny (wpAny_execs_nil ?_)
      have rest : ∃ t, PSs (cxS P w K mg base ["self"] "EndedBit.deed" (defScope s_EndedBit_deed) f cda cc A outer s0 H2 E) ((defBody s_EndedBit_deed).drop 1) t ∧ t { nx := fun _ H' => Q .non H', rt := Q } (start ["self"] [.ref a]) H2 := by
        refine ⟨_, (pss_cons (ps_fld (pv 0) (pe_op op_sub (pe_fld (pv 0) rfl) pe_int) rfl)
    (pss_one (ps_ret pe_bl))), ?_⟩
        walk_at "go"
        refine sfld ha cl nS (by show 1 < 1000; decide) rfl fun H6 h6 e6 => ?_
        walk_at "go"
        have eb : deB d 1 = true ∧ deF d 1 = 0 := by rw [hk]; decide +kernel
        rw [eb.1, eb.2] at q
        exact q H6 (mk_plain hn hC h6 e (.inl (.inl rfl)) m) (Ch.of e6)
      obtain ⟨t, h1, h2⟩ := rest
      exact wpAt_of_wpAny (h1.run [] s2 _ H2 _ J h2)
theorem ok_kinit {D gU : Addr} {fdU : FuncData} (F : FunS P K "__init__" "KindBit.__init__" s_KindBit___init__ f D fd) (T : TB K CL) (U : ∀ C', CL[16]? = some C' → UpAt K C' D "__init__" gU)
    (GU : Gd P w K mg base (L2.CX P w) 4 gU fdU ["self", "value"] (spBI c0 CL)) (bU : Binds K fdU ["self", "value"] []) : Gd P w K mg base (L2.CX P w) 5 f fd ["self", "kind", "value"] (spKI c0 CL) := by
  refine gdS_of (k := 4) F sc_KindBit___init__ (fun vs H Q E h => ?_) (fun cda cc A outer s0 s1 H vs Q E rm gd h sf I => ?_)
  · obtain ⟨a, k, C, dx, x, rfl, _⟩ := h
    rfl
  · obtain ⟨a, k, C', dx, x, rfl, hC, ha, dv, ov, er, q⟩ := h
    obtain ⟨dV, kV, doc, pm, ct, an, SF⟩ := sf
    have cl := T.cl 16 C' hC
    have nK := T.nK C' hC
    refine ks_wpAt_execs_cons (ks_wpAt_Expr_any (ks_wpAt_mono (sup_run (Q := fun v H' => ∃ b, x = .int b ∧ (b = 0 ∨ b = 1) ∧ H' a = some (.ins C' dx (pf b)) ∧ Ch a H H') sc_KindBit___init__ SF rfl rfl (by decide +kernel) (by decide) I rfl ha (U C' hC) GU bU rm gd (pa_cons (pv 2) pa_nil) ?_) (fun u s2 z => ?_) (fun e s2 z => z)) I.quiet)
    · walk_at "go"
      exact ⟨a, 16, C', dx, x, rfl, hC, ha, dv, ov, er, fun b eb hb H' h' c => ⟨b, eb, hb, h', c⟩⟩
    obtain ⟨v, H2, J, rv, b, eb, hb, ha2, c2⟩ := z
    have rest : ∃ t, PSs (cxS P w K mg base ["self", "kind", "value"] "KindBit.__init__" (defScope s_KindBit___init__) f cda cc A outer s0 H E) ((defBody s_KindBit___init__).drop 1) t ∧ t { nx := fun _ H' => Q .non H', rt := Q } (start ["self", "kind", "value"] [.ref a, .ref k, x]) H2 := by
      refine ⟨_, (pss_one (ps_fld (pv 0) (pv 1) rfl)), ?_⟩
      walk_at "go"
      refine sfld ha2 cl nK (by show 1 < 1000; decide) rfl fun H6 h6 e6 => ?_
      exact q b eb hb H6 h6 (c2.trans (Ch.of e6))
    obtain ⟨t, h1, h2⟩ := rest
    exact wpAt_of_wpAny (h1.run [] s2 _ H2 _ J h2)
end
end Law

set_option Elab.async false
set_option linter.all false
set_option maxRecDepth 100000
set_option maxHeartbeats 4000000
namespace Law
open PySem PySem.Spec PySem.Calls PyProof.Rows L2 KG LamX
local macro_rules | `(tactic| walk_at "1") => `(tactic| first
  | (with_reducible refine w_var rfl ?_) | (with_reducible refine w_c ?_) | (with_reducible refine w_seq ?_) | (with_reducible refine w_asg ?_) | (with_reducible refine w_gname ?_) | (with_reducible refine w_op ?_) | (with_reducible refine w_un ?_)
  | (with_reducible refine w_add ?_) | (with_reducible refine w_sub ?_) | ((with_reducible refine' w_mod ?mo ?_); (case mo => first | assumption | decide | omega)) | (with_reducible refine w_and ?_) | (with_reducible refine w_or ?_) | (with_reducible refine w_xor ?_)
  | (with_reducible refine w_gt ?_) | (with_reducible refine w_lt ?_) | (with_reducible refine w_ge ?_) | (with_reducible refine w_le ?_) | ((with_reducible refine' w_eq ?sc ?_); (case sc => rfl)) | ((with_reducible refine' w_ne ?sc ?_); (case sc => rfl))
  | (with_reducible refine w_ret ?_) | (with_reducible refine w_next ?_) | (with_reducible refine w_ifs ?_) | (with_reducible refine w_ifx ?_) | (with_reducible refine w_test ?_) | (with_reducible refine w_tB ?_) | (with_reducible refine w_bl ?_)
  | ((with_reducible refine' w_ixL ?ixh ?ixa ?_); (case ixh => first | exact SqL.of (by assumption)); (case ixa => first | rfl | skip)) | ((with_reducible refine' w_ixT ?ixh ?ixa ?_); (case ixh => first | exact SqT.of (by assumption)); (case ixa => first | rfl | skip))
  | ((with_reducible refine' w_fld ?_)) | ((with_reducible refine' fld ?fh ?fc ?fn ?fl ?_); (case fh => assumption); (case fc => assumption); (case fn => assumption); (case fl => rfl)) | (with_reducible refine w_sfld ?_)
  | (with_reducible refine Or.inl ⟨_, rfl, ?_⟩) | (with_reducible refine w_gsub ?_) | (with_reducible refine w_andV ?_) | (with_reducible refine w_orV ?_)
  | (with_reducible refine w_nil ?_) | (with_reducible refine w_cons ?_) | (with_reducible refine w_tup ?_) | (with_reducible refine w_lst ?_) | (with_reducible refine w_and2 ?_) | (with_reducible refine w_or2 ?_) | (with_reducible refine w_not ?_) | (with_reducible refine w_cb ?_) | (with_reducible refine w_call ?_) | (with_reducible refine w_par ?_) | (with_reducible refine w_pnil ?_) | (with_reducible refine w_pcons ?_) | (with_reducible refine w_dput ?_) | (with_reducible refine w_dget ?_) | (with_reducible refine w_for ?_) | (with_reducible refine w_itup ?_) | (with_reducible refine w_ilist ?_) | (with_reducible refine w_irng ?_) | (with_reducible refine w_meth ?_) | (with_reducible refine w_make ?_) | (with_reducible refine w_makeK ?_) | (with_reducible refine w_methK ?_) | ((with_reducible refine' mth ?mh ?ml ?_); (case mh => assumption); (case ml => rfl)) | (with_reducible refine w_drop ?_))
local macro_rules | `(tactic| walk_at "go") => `(tactic| ((repeat (walk_at "1")); try dsimp only))
local macro_rules | `(tactic| walk_at "1") => `(tactic| first
  | (with_reducible refine w_notV ?_) | (with_reducible refine w_callK ?_) | (with_reducible refine w_lc ?_) | (with_reducible refine w_chain ?_) | (with_reducible refine w_neg ?_) | ((with_reducible refine' w_shr ?mo ?_); (case mo => first | assumption | omega)))
/-- what is tracked stays, but at p -/
def Kp (p : Addr) (H H' : Hp) : Prop := ∀ b o, H b = some o → b ≠ p → H' b = some o
/-- the pen at p -/
def PenC (n : Nat) (p l : Addr) (cells : List Int) (H : Hp) : Prop := cells.length ≤ 63 ∧ H l = some (.lst (cells.map V.int)) ∧ ∃ (a : Nat) (r : Int), a ≤ n ∧ H p = some (.lst [.ref l, .int a, .int r])
def spDraw : Sp := fun vs H Q _ => ∃ (p l : Addr) (cells : List Int) (n : Nat) (m : Int), vs = [.ref p, .int m] ∧ PenC n p l cells H ∧ n ≤ 100000 ∧ 0 < m ∧ m < 1073741824 ∧
  ∀ (d : Int) (H' : Hp), 0 ≤ d → d < m → PenC (n + 1) p l cells H' → Kp p H H' → Q (.int d) H'
structure Bi (mg : Str → Option Value) : Prop where
  g_int : mg "int" = none
  g_len : mg "len" = none
  g_abs : mg "abs" = none
  g_list : mg "list" = none
  g_repr : mg "repr" = none
  g_range : mg "range" = none
  g_str : mg "str" = none
theorem dp_ints {K : PySem.W.Frag} {H : Hp} : ∀ ns : List Int, DpAll K H (ns.map V.int) (ns.map PyData.int)
  | [] => .nil
  | n :: ns => .cons (.int n) (dp_ints ns)
theorem sh_ints (ns : List Int) : SeqAt.shaped (.list (ns.map PyData.int)) = true := by
  have h1 : ∀ ns : List Int, PyData.canLayAll0 (ns.map PyData.int) = true := fun ns => by
    induction ns with
    | nil => simp [PyData.canLayAll0]
    | cons a as ih => simp only [List.map_cons, PyData.canLayAll0, PyData.canLay0, ih, Bool.and_self]
  have h2 : ∀ ns : List Int, PyData.depthAll (ns.map PyData.int) = 0 := fun ns => by
    induction ns with
    | nil => simp [PyData.depthAll]
    | cons a as ih => simp only [List.map_cons, PyData.depthAll, PyData.depth, ih, Nat.max_self]
  unfold SeqAt.shaped
  simp only [PyData.canLay0, PyData.depth, h1, h2]
  decide
theorem at_int {cells : List Int} {i : Int} (h0 : 0 ≤ i) (h1 : i < (cells.length : Int)) : ∃ c : Int, atI (cells.map V.int) i = some (.int c) := by
  have h : i.toNat < cells.length := by omega
  refine ⟨cells[i.toNat], at_of (j := i.toNat) (by omega) ?_⟩
  rw [List.getElem?_map, List.getElem?_eq_getElem h]
  rfl
section
variable {P : Program} {w : World} {K : PySem.W.Frag} {mg : Str → Option Value} {base : Heap}
theorem ok_draw (D : DefAt K mg "_law_draw" s__law_draw ["_law_pen_here", "_law_many"]) (B : Bi mg) : Cal P w K mg base 1 "_law_draw" spDraw := by
  refine D.cal sc__law_draw (fun vs H Q E h => ?_) (fun f cdv A outer s H vs Q E rm gd h => ?_)
  · obtain ⟨p, l, cells, n, m, rfl, _⟩ := h
    rfl
  · obtain ⟨p, l, cells, n, m, rfl, ⟨hc, hl, a, r, ha, hp⟩, hn, hm, hm2, k⟩ := h
    have hpl : p ≠ l := ne_of hp hl (by
      intro z
      cases cells with
      | nil => cases z
      | cons c cs => injection z with z; injection z with z; cases z)
    refine ⟨_, (pss_cons (ps_if (pt_cmpR op_gt (pe_ix ix_list (pv 0) pe_int (fun _ _ => rfl)) pe_int (nomark _))
      (pss_cons (ps_set (i := 2) sc__law_draw.nd rfl (Or.inl rfl) (pe_op op_mod (pe_callTy call_int1 (by rfl) B.g_int (by decide +kernel) (pa_cons (pe_ix ix_list (pv 0) pe_int (fun _ _ => rfl)) pa_nil)) (pv 1)))
      (pss_cons (ps_asg (pe_op op_fdiv (pe_callTy call_int1 (by rfl) B.g_int (by decide +kernel) (pa_cons (pe_ix ix_list (pv 0) pe_int (fun _ _ => rfl)) pa_nil)) (pv 1)) (pg_sub (pv 0) pe_int set_list))
      (pss_one (ps_ret (pv 2)))))
      pss_nil)
    (pss_cons (ps_set (i := 3) sc__law_draw.nd rfl (Or.inl rfl) (pe_ix ix_list (pv 0) pe_int (fun _ _ => rfl)))
    (pss_cons (ps_asg (pe_op op_add (pv 3) pe_int) (pg_sub (pv 0) pe_int set_list))
    (pss_cons (ps_set (i := 4) sc__law_draw.nd rfl (Or.inl rfl) (pe_op op_add (pe_op op_mul pe_int (pv 3)) pe_int))
    (pss_mid (ps_if (pt_cmpR (op_neD rm.units) (pe_ix ix_list (pv 0) pe_int (fun _ _ => rfl)) (pe_lst pa_nil) (nomark _))
      (pss_one (ps_set (i := 4) sc__law_draw.nd rfl (Or.inl rfl) (pe_ix ix_list (pe_ix ix_list (pv 0) pe_int (fun _ _ => rfl)) (pe_op op_mod (pe_callTy call_int1 (by rfl) B.g_int (by decide +kernel) (pa_cons (pv 3) pa_nil)) (pe_callB call_len_seq (by rfl) B.g_len (by decide +kernel) (pa_cons (pe_ix ix_list (pv 0) pe_int (fun _ _ => rfl)) pa_nil))) (fun _ _ => rfl))))
      pss_nil)
    (pss_mid (ps_if (PW.pt (pw_and (pt_cmpR op_lt (pv 3) (pe_callB call_len_seq (by rfl) B.g_len (by decide +kernel) (pa_cons (pe_ix ix_list (pv 0) pe_int (fun _ _ => rfl)) pa_nil)) (nomark _)) (pw_and1 (pt_cmpR op_ge (pe_callB call_abs (by rfl) B.g_abs (by decide +kernel) (pa_cons (pv 4) pa_nil)) (pe_op op_pow pe_int pe_int) (nomark _)))))
      (pss_cons (ps_set (i := 5) sc__law_draw.nd rfl (Or.inl rfl) (pe_op op_add (pe_op op_mul pe_int (pe_callB call_abs (by rfl) B.g_abs (by decide +kernel) (pa_cons (pv 4) pa_nil))) (pe_callTy call_int1 (by rfl) B.g_int (by decide +kernel) (pa_cons (pe_cmpR op_lt (pv 4) pe_int (nomark _)) pa_nil))))
      (pss_cons (ps_asg (pe_op op_fdiv (pv 5) (pv 1)) (pg_sub (pv 0) pe_int set_list))
      (pss_one (ps_ret (pe_op op_mod (pe_callTy call_int1 (by rfl) B.g_int (by decide +kernel) (pa_cons (pv 5) pa_nil)) (pv 1))))))
      pss_nil)
    (pss_cons (ps_set (i := 6) sc__law_draw.nd rfl (Or.inl rfl) (pe_op op_mod (pe_op op_pow (pe_callTy call_int1 (by rfl) B.g_int (by decide +kernel) (pa_cons (pe_op op_add (pe_op op_add (pe_op op_mod (pe_callTy call_int1 (by rfl) B.g_int (by decide +kernel) (pa_cons (pv 4) pa_nil)) pe_int) (pe_op op_mul pe_int (pv 3))) pe_int) pa_nil)) pe_int) pe_int))
    (pss_cons (ps_set (i := 6) sc__law_draw.nd rfl (Or.inl rfl) (pe_op op_mod (pe_op op_pow (pe_callTy call_int1 (by rfl) B.g_int (by decide +kernel) (pa_cons (pe_op op_add (pe_op op_add (pe_op op_mul (pv 6) (pe_op op_add (pv 3) pe_int)) (pe_op op_mul (pe_op op_mul pe_int (pv 3)) (pv 3))) pe_int) pa_nil)) pe_int) pe_int))
    (pss_one (ps_ret (pe_op op_mod (pe_callTy call_int1 (by rfl) B.g_int (by decide +kernel) (pa_cons (pe_op op_fdiv (pv 6) pe_int) pa_nil)) (pv 1)))))))))))), ?_⟩
    walk_at "go"
    refine ite2 (fun h0 => ?_) (fun h0 => ?_)
    · walk_at "go"
      refine w_fdiv ⟨hm, hm2⟩ ?_
      walk_at "go"
      refine w_setG hp rfl rfl fun H1 hp1 e1 => ?_
      walk_at "go"
      refine k _ _ (Int.emod_nonneg _ (by omega)) (Int.emod_lt_of_pos _ hm) ⟨hc, (e1 l hpl.symm).trans hl, a, r / m, by omega, hp1⟩ fun b o e nb => (e1 b nb).trans e
    · walk_at "go"
      refine w_setG hp rfl rfl fun H1 hp1 e1 => ?_
      have hl1 : H1 l = some (.lst (cells.map V.int)) := (e1 l hpl.symm).trans hl
      have hp1 : H1 p = some (.lst [.ref l, .int ((a + 1 : Nat) : Int), .int r]) := hp1
      walk_at "go"
      refine w_mul (.inl ⟨by omega, by omega⟩) ?_
      walk_at "go"
      refine ⟨fun σ' H' => Same H1 H' ∧ ∃ c : Int, σ' = [some (.ref p), some (.int m), none, some (.int a), some (.int c), none, none], ?_, ?_⟩
      · walk_at "go"
        refine new (by decide) fun z H2 nz hz s2 => ?_
        have hp2 := s2 _ _ hp1
        have hl2 := s2 _ _ hl1
        refine ⟨.list (cells.map .int), .list [], .lst (SqL.of hl2) (dp_ints cells), .lst (SqL.of hz) .nil, sh_ints cells, by decide +kernel, ?_⟩
        walk_at "go"
        refine ite2 (fun hne => ?_) (fun _ => ?_)
        · have pos : 0 < cells.length := by
            cases cells with
            | nil => exact absurd hne (by decide)
            | cons c cs => exact Nat.succ_pos _
          walk_at "go"
          refine ⟨l, cells.map .int, rfl, .inl (SqL.of hl2), ?_⟩
          rw [List.length_map]
          walk_at "go"
          have b0 : 0 ≤ (a : Int) % (cells.length : Int) := Int.emod_nonneg _ (by omega)
          have b1 : (a : Int) % (cells.length : Int) < (cells.length : Int) := Int.emod_lt_of_pos _ (by omega)
          obtain ⟨c, hc'⟩ := at_int (cells := cells) b0 b1
          refine w_ixL (SqL.of hl2) hc' ?_
          walk_at "go"
          exact ⟨s2, c, rfl⟩
        · walk_at "go"
          exact ⟨s2, _, rfl⟩
      · rintro σ' H2 ⟨s2, c, rfl⟩
        have hp2 := s2 _ _ hp1
        have hl2 := s2 _ _ hl1
        have fin : ∀ (d : Int) (rr : Int) (H' : Hp), 0 ≤ d → d < m → H' p = some (.lst [.ref l, .int ((a + 1 : Nat) : Int), .int rr]) → (∀ b, b ≠ p → H' b = H2 b) → Q (V.int d) H' := fun d rr H' d0 d1 hp' e' =>
          k d H' d0 d1 ⟨hc, (e' l hpl.symm).trans hl2, a + 1, rr, by omega, hp'⟩ fun b o e nb => (e' b nb).trans (s2 _ _ ((e1 b nb).trans e))
        have absok : ∀ c : Int, 0 ≤ (if c < 0 then -c else c) := fun c => by split <;> omega
        refine ⟨fun σ' H' => H' = H2 ∧ σ' = [some (.ref p), some (.int m), none, some (.int a), some (.int c), none, none], ?_, ?_⟩
        · have big : ∀ (b : Int) (D : Ends), (∀ (d : Int) (H' : Hp), D.rt (.int d) H' = Q (.int d) H') → True := fun _ _ _ => trivial
          walk_at "go"
          refine ⟨l, cells.map .int, rfl, .inl (SqL.of hl2), ?_⟩
          rw [List.length_map]
          walk_at "go"
          refine ite2 (fun h1 => ?_) (fun h1 => ?_)
          · walk_at "go"
            refine ⟨c, rfl, ?_⟩
            walk_at "go"
            refine w_pow ⟨by decide, by decide, by decide⟩ ?_
            walk_at "go"
            refine ite2 (fun h2 => ?_) (fun h2 => ?_)
            · walk_at "go"
              refine ⟨c, rfl, ?_⟩
              refine w_mul (.inl ⟨by decide, by decide⟩) ?_
              walk_at "go"
              refine .inr ⟨_, rfl, ?_⟩
              walk_at "go"
              refine w_fdiv ⟨hm, hm2⟩ ?_
              walk_at "go"
              refine w_setG hp2 rfl rfl fun H3 hp3 e3 => ?_
              walk_at "go"
              exact fin _ _ _ (Int.emod_nonneg _ (by omega)) (Int.emod_lt_of_pos _ hm) hp3 e3
            · walk_at "go"
              exact ⟨rfl, rfl⟩
          · walk_at "go"
            refine ite2 (fun h2 => absurd h2 (by decide)) (fun h2 => ?_)
            walk_at "go"
            exact ⟨rfl, rfl⟩
        · rintro σ' H' ⟨rfl, rfl⟩
          have an : 0 ≤ (a : Int) := Int.natCast_nonneg _
          have a2 : (a : Int) ≤ 100000 := by omega
          walk_at "go"
          refine w_mul (.inl ⟨by decide, by decide⟩) ?_
          walk_at "go"
          have q0 : 0 ≤ c % 2147483579 := Int.emod_nonneg _ (by decide)
          have q1 : c % 2147483579 < 2147483579 := Int.emod_lt_of_pos _ (by decide)
          refine w_pow ⟨by decide, by decide, by omega⟩ ?_
          walk_at "go"
          generalize hx : (c % 2147483579 + 57131 * (a : Int) + 211) ^ Int.toNat 5 % 2147483629 = x
          have x0 : 0 ≤ x := by rw [← hx]; exact Int.emod_nonneg _ (by decide)
          have x1 : x < 2147483629 := by rw [← hx]; exact Int.emod_lt_of_pos _ (by decide)
          refine w_mul (.inl ⟨by omega, by omega⟩) ?_
          walk_at "go"
          refine w_mul (.inl ⟨by decide, by decide⟩) ?_
          walk_at "go"
          refine w_mul (.inr ⟨by omega, by omega⟩) ?_
          walk_at "go"
          have y0 : 0 ≤ x * ((a : Int) + 64007) := Int.mul_nonneg x0 (by omega)
          have y1 : x * ((a : Int) + 64007) ≤ 2147483629 * 164007 := Int.mul_le_mul (by omega) (by omega) (by omega) (by decide)
          have z0 : 0 ≤ 91009 * (a : Int) * (a : Int) := Int.mul_nonneg (by omega) an
          have z1 : 91009 * (a : Int) * (a : Int) ≤ 91009 * 100000 * 100000 := Int.mul_le_mul (by omega) a2 an (by decide)
          refine w_pow ⟨by decide, by decide, by omega⟩ ?_
          walk_at "go"
          refine w_fdiv ⟨by decide, by decide⟩ ?_
          walk_at "go"
          exact fin _ r _ (Int.emod_nonneg _ (by omega)) (Int.emod_lt_of_pos _ hm) hp2 fun _ _ => rfl
theorem cut_ints (ns : List Int) (lo hi : Option Int) : ∃ ms : List Int, cutV (ns.map V.int) lo hi = ms.map V.int ∧ ms.length ≤ ns.length := by
  unfold cutV
  refine ⟨(ns.drop (HT.sIx (ns.map V.int).length 0 lo)).take (HT.sIx (ns.map V.int).length (ns.map V.int).length hi - HT.sIx (ns.map V.int).length 0 lo), ?_, ?_⟩
  · rw [List.map_take, List.map_drop]
  · rw [List.length_take, List.length_drop]
    omega
def spPen (K : PySem.W.Frag) : Sp := fun vs H Q _ => ∃ (a : Addr) (ns : List Int), vs = [.ref a] ∧ SqL K H a (ns.map V.int) ∧ ns.length ≤ 63 ∧
  ∀ (p l : Addr) (cells : List Int) (H' : Hp), H p = none → PenC 0 p l cells H' → Same H H' → Q (.ref p) H'
theorem ok_pen (D : DefAt K mg "_law_pen" s__law_pen ["_law_script"]) (B : Bi mg) : Cal P w K mg base 1 "_law_pen" (spPen K) := by
  refine D.cal sc__law_pen (fun vs H Q E h => ?_) (fun f cdv A outer s H vs Q E rm gd h => ?_)
  · obtain ⟨a, ns, rfl, _⟩ := h
    rfl
  · obtain ⟨a, ns, rfl, hs, hl, k⟩ := h
    obtain ⟨ms, em, lm⟩ := cut_ints ns none (some 63)
    refine ⟨_, (pss_one (ps_ret (pe_lst (pa_cons (pe_callTy call_list_of (by rfl) B.g_list (by decide +kernel) (pa_cons (pe_slice sl_list (pv 0) po_none (po_some pe_int)) pa_nil)) (pa_cons pe_int (pa_cons pe_int pa_nil)))))), ?_⟩
    walk_at "go"
    refine ⟨_, rfl, _, rfl, a, ns.map .int, rfl, hs, fun p1 n1 => ?_⟩
    rw [em]
    have s1 : Same H (upd H p1 (.lst (ms.map V.int))) := fun b u e => by rw [upd_ne (ne_of_none e n1)]; exact e
    walk_at "go"
    refine ⟨p1, ms.map .int, rfl, .inl (SqL.of upd_same), fun l nl => ?_⟩
    have s2 : Same (upd H p1 (.lst (ms.map V.int))) (upd (upd H p1 (.lst (ms.map V.int))) l (.lst (ms.map V.int))) := fun b u e => by rw [upd_ne (ne_of_none e nl)]; exact e
    walk_at "go"
    refine new (by show 3 ≤ sizeLine; decide) fun p H3 np h3 s3 => ?_
    exact k p l ms H3 (s1.free (s2.free np)) ⟨by omega, s3 _ _ upd_same, 0, 0, Nat.le_refl _, h3⟩ (s1.trans (s2.trans s3))
end
theorem PenC.same {n : Nat} {p l : Addr} {cells : List Int} {H H' : Hp} (h : PenC n p l cells H) (s : Same H H') : PenC n p l cells H' := by
  obtain ⟨a, b, c, d, e, f⟩ := h
  exact ⟨a, s _ _ b, c, d, e, s _ _ f⟩
theorem PenC.mono {n m : Nat} {p l : Addr} {cells : List Int} {H : Hp} (h : PenC n p l cells H) (k : n ≤ m) : PenC m p l cells H := by
  obtain ⟨a, b, c, d, e, f⟩ := h
  exact ⟨a, b, c, d, Nat.le_trans e k, f⟩
local macro_rules | `(tactic| walk_at "pick") => `(tactic| first | (refine ite2 (fun h => absurd h (by decide)) fun _ => ?_) | (refine ite2 (fun _ => ?_) fun h => absurd (by decide) h))
def nmB : Nat → Str
  | 0 => "Bit" | 1 => "TakenBit" | 2 => "ClearedBit" | 3 => "ZeroClearedBit" | 4 => "SetBit" | 5 => "FlippedBit" | 6 => "OnceBit" | 7 => "DeafBit" | 8 => "RaisedBit" | 9 => "EndedBit"
  | 10 => "DriftingBit" | 11 => "EventBit" | 12 => "TakenEventBit" | 13 => "StartBit" | 14 => "GaugeBit" | 15 => "SealedBit" | _ => "KindBit"
def cB (CL : List Addr) (i : Nat) : Addr := CL.getD i 0
structure MB (K : PySem.W.Frag) (mg : Str → Option Value) (CL : List Addr) (fI fK : Addr) : Prop where
  len : CL.length = 17
  gB : ∀ i, i < 17 → mg (nmB i) = some (.ref (cB CL i))
  mkB : ∀ i, i < 16 → Mk K (cB CL i) fI
  mkK : Mk K (cB CL 16) fK
theorem MB.at_ {K : PySem.W.Frag} {mg : Str → Option Value} {CL : List Addr} {fI fK : Addr} (M : MB K mg CL fI fK) {i : Nat} (h : i < 17) : CL[i]? = some (cB CL i) := by
  unfold cB
  rw [List.getD_eq_getElem?_getD]
  have := M.len
  rw [List.getElem?_eq_getElem (by omega)]
  rfl
theorem Bits.imp {c0 : Addr} {H H' : Hp} {E : XK} {x : V} {ok ok' : Int → Prop} (h : Bits c0 H E x ok) (s : Same H H') (k : ∀ b, (b = 0 ∨ b = 1) → ok b → ok' b) : Bits c0 H' E x ok' := by
  obtain ⟨d, ov, er, q⟩ := h
  exact ⟨d, ov.same s, fun z dd H2 s2 hd => er z dd H2 (s.trans s2) hd, fun b e hb => k b hb (q b e hb)⟩
def w1 (n : Nat) : Str := (wordsT n).1
def w2 (n : Nat) : Str := (wordsT n).2.1
def w3 (n : Nat) : Str := (wordsT n).2.2
theorem w_mem : ∀ n : Nat, n < 16 → w1 n ∈ RD ∧ w2 n ∈ WR ∧ w3 n ∈ DV := by decide +kernel
def spMkB (KC c0 : Addr) (CL : List Addr) (top : Nat) : Sp := fun vs H Q E => ∃ (n : Nat) (x : V), vs = [.int n, x] ∧ n < top ∧ Bits c0 H E x fun b => ∀ a H', H a = none → BitAt KC CL H' a n (w1 n) (w2 n) (w3 n) b → Same H H' → Q (.ref a) H'
def spWords : Sp := fun vs H Q _ => ∃ n : Nat, vs = [.int n] ∧ n < 16 ∧ ∀ t H', H t = none → H' t = some (.tup [.str (w1 n), .str (w2 n), .str (w3 n)]) → Same H H' → Q (.ref t) H'
def LWs : List Str := ["keep store still", "take store still", "keep clear1 still", "keep clear0 still", "keep set1 still", "keep flip1 still", "keep once still", "keep none still", "keep store raise", "keep store end",
  "keep store drift", "keep clear1 raise", "take none raise", "keep set1 end", "keep none drift", "take once still"]
theorem lws_split : ∀ n : Nat, n < 16 → ∃ s, LWs[n]? = some s ∧ Txt.split s " " = [w1 n, w2 n, w3 n] ∧ s.length ≤ 30 := by
  have h : ∀ n : Nat, n < 16 → Txt.split (LWs.getD n "") " " = [w1 n, w2 n, w3 n] ∧ (LWs.getD n "").length ≤ 30 ∧ LWs[n]? = some (LWs.getD n "") := by decide +kernel
  exact fun n hn => ⟨_, (h n hn).2.2, (h n hn).1, (h n hn).2.1⟩
section
variable {P : Program} {w : World} {K : PySem.W.Frag} {mg : Str → Option Value} {base : Heap} {C c0 fI fK : Addr} {CL : List Addr} {fdI : FuncData}
theorem w_tM1 {r : V → List V → Hp → VK → Prop} {to te : TE} {σ : L2.St} {H : Hp} {Q : VK} (q : to σ H fun x H1 => (∃ a, x = .str a) ∧ te σ H1 fun y H2 => r x [y] H2 Q) : tM1 r to te σ H Q := q
theorem ok_words (D : DefAt K mg "_law_words_of" s__law_words_of ["_law_number"]) (B : B1 mg) : Cal P w K mg base 1 "_law_words_of" spWords := by
  refine D.cal sc__law_words_of (fun vs H Q E h => ?_) (fun f cdv A outer s H vs Q E rm gd h => ?_)
  · obtain ⟨n, rfl, _⟩ := h
    rfl
  · obtain ⟨n, rfl, hn, q⟩ := h
    refine ⟨_, (pss_cons (ps_set (i := 1) sc__law_words_of.nd rfl (Or.inl rfl) (pe_lst (pa_cons pe_str (pa_cons pe_str (pa_cons pe_str (pa_cons pe_str (pa_cons pe_str pa_nil)))))))
    (pss_cons (ps_set (i := 1) sc__law_words_of.nd rfl (Or.inl rfl) (pe_op op_cat (pv 1) (pe_lst (pa_cons pe_str (pa_cons pe_str (pa_cons pe_str (pa_cons pe_str (pa_cons pe_str pa_nil))))))))
    (pss_cons (ps_set (i := 1) sc__law_words_of.nd rfl (Or.inl rfl) (pe_op op_cat (pv 1) (pe_lst (pa_cons pe_str (pa_cons pe_str (pa_cons pe_str (pa_cons pe_str (pa_cons pe_str pa_nil))))))))
    (pss_one (ps_ret (pe_callTy call_tuple_of (by rfl) B.g_tuple (by decide +kernel) (pa_cons (pe_split (pe_ix ix_list (pe_op op_cat (pv 1) (pe_lst (pa_cons pe_str pa_nil))) (pv 0) (fun _ _ => rfl)) pe_str) pa_nil))))))), ?_⟩
    walk_at "go"
    refine new (show 5 ≤ sizeLine by decide) fun t1 H1 n1 h1 s1 => ?_
    walk_at "go"
    refine new (show 5 ≤ sizeLine by decide) fun t2 H2 n2 h2 s2 => ?_
    refine w_cat (s2 _ _ h1) h2 rfl (show 10 ≤ sizeLine by decide) fun t3 H3 n3 h3 s3 => ?_
    walk_at "go"
    refine new (show 5 ≤ sizeLine by decide) fun t4 H4 n4 h4 s4 => ?_
    refine w_cat (s4 _ _ h3) h4 rfl (show 15 ≤ sizeLine by decide) fun t5 H5 n5 h5 s5 => ?_
    walk_at "go"
    refine w_tM1 ?_
    walk_at "go"
    refine new (show 1 ≤ sizeLine by decide) fun t6 H6 n6 h6 s6 => ?_
    refine w_cat (s6 _ _ h5) h6 rfl (show 16 ≤ sizeLine by decide) fun t7 H7 n7 h7 s7 => ?_
    walk_at "go"
    obtain ⟨z, e1, e2, e3⟩ := lws_split n hn
    have e1' : (LWs.map V.str)[n]? = some (.str z) := by rw [List.getElem?_map, e1]; rfl
    refine w_ixL (SqL.of h7) (atI_nat e1') ?_
    refine ⟨⟨_, rfl⟩, ?_⟩
    walk_at "go"
    refine ⟨z, " ", rfl, rfl, by decide, Nat.le_trans (Nat.add_le_add_right e3 2) (by decide), fun p8 n8 => ?_⟩
    rw [e2]
    have s8 : Same H7 (upd H7 p8 (.lst ([w1 n, w2 n, w3 n].map V.str))) := fun b o e => by
      rw [upd_ne (ne_of_none e n8)]
      exact e
    have h8 : upd H7 p8 (.lst ([w1 n, w2 n, w3 n].map V.str)) p8 = some (.lst [.str (w1 n), .str (w2 n), .str (w3 n)]) := upd_same
    generalize upd H7 p8 (.lst ([w1 n, w2 n, w3 n].map V.str)) = H8 at s8 h8
    walk_at "go"
    refine ⟨p8, _, rfl, .inl ⟨SqL.of h8, fun l nl => ?_⟩⟩
    have s08 : Same H H8 := s1.trans (s2.trans (s3.trans (s4.trans (s5.trans (s6.trans (s7.trans s8))))))
    refine q l _ ?_ upd_same (s08.trans fun b o e => ?_)
    · cases hl : H l with
      | none => rfl
      | some o =>
        rw [s08 _ _ hl] at nl
        cases nl
    · rw [upd_ne (ne_of_none e nl)]
      exact e
theorem ok_plain (D : DefAt K mg "_law_plain_bit" s__law_plain_bit ["_law_number", "_law_begin"]) (M : MB K mg CL fI fK) (GI : Gd P w K mg base (L2.CX P w) 4 fI fdI ["self", "value"] (spBI c0 CL)) (b2 : Binds K fdI ["self", "value"] []) : CalX P w K mg base 6 "_law_plain_bit" ["_law_number", "_law_begin"] (spMkB C c0 CL 8) := by
  refine D.calX (k := 5) sc__law_plain_bit (fun vs H Q E h => ?_) (fun f cdv A outer s H vs Q E rm gd h => ?_)
  · obtain ⟨n, x, rfl, _⟩ := h
    rfl
  · obtain ⟨n, x, rfl, hn, bt⟩ := h
    have fin : ∀ m, m < 8 → n = m → Make (cB CL m) (spBI c0 CL) (fun z => z :: ([x] ++ [])) E H Q := fun m hm e => by
      subst e
      refine make fun y dx H9 ny hy sy => ?_
      refine ⟨y, n, cB CL n, dx, x, rfl, M.at_ (by omega), hy, bt.imp sy fun b hb ok H' h' c => ⟨rfl, ?_⟩⟩
      have hm := w_mem n (by omega)
      exact ok y H' ny (mk_plain (by omega) (M.at_ (by omega)) h' rfl (.inl hb) hm) fun q o e => c q o (sy q o e) (ne_of_none e ny)
    refine ⟨_, (pss_cons (ps_if (pt_cmpR op_eq (pv 0) pe_int (nomark _))
      (pss_one (ps_ret (pe_gmake (M.mkB 0 (by decide)) GI (rm.mono (by decide)) gd rfl (M.gB 0 (by decide)) b2 .nil pass_cx (pa_cons (pv 1) pa_nil))))
      pss_nil)
    (pss_cons (ps_if (pt_cmpR op_eq (pv 0) pe_int (nomark _))
      (pss_one (ps_ret (pe_gmake (M.mkB 1 (by decide)) GI (rm.mono (by decide)) gd rfl (M.gB 1 (by decide)) b2 .nil pass_cx (pa_cons (pv 1) pa_nil))))
      pss_nil)
    (pss_cons (ps_if (pt_cmpR op_eq (pv 0) pe_int (nomark _))
      (pss_one (ps_ret (pe_gmake (M.mkB 2 (by decide)) GI (rm.mono (by decide)) gd rfl (M.gB 2 (by decide)) b2 .nil pass_cx (pa_cons (pv 1) pa_nil))))
      pss_nil)
    (pss_cons (ps_if (pt_cmpR op_eq (pv 0) pe_int (nomark _))
      (pss_one (ps_ret (pe_gmake (M.mkB 3 (by decide)) GI (rm.mono (by decide)) gd rfl (M.gB 3 (by decide)) b2 .nil pass_cx (pa_cons (pv 1) pa_nil))))
      pss_nil)
    (pss_cons (ps_if (pt_cmpR op_eq (pv 0) pe_int (nomark _))
      (pss_one (ps_ret (pe_gmake (M.mkB 4 (by decide)) GI (rm.mono (by decide)) gd rfl (M.gB 4 (by decide)) b2 .nil pass_cx (pa_cons (pv 1) pa_nil))))
      pss_nil)
    (pss_cons (ps_if (pt_cmpR op_eq (pv 0) pe_int (nomark _))
      (pss_one (ps_ret (pe_gmake (M.mkB 5 (by decide)) GI (rm.mono (by decide)) gd rfl (M.gB 5 (by decide)) b2 .nil pass_cx (pa_cons (pv 1) pa_nil))))
      pss_nil)
    (pss_cons (ps_if (pt_cmpR op_eq (pv 0) pe_int (nomark _))
      (pss_one (ps_ret (pe_gmake (M.mkB 6 (by decide)) GI (rm.mono (by decide)) gd rfl (M.gB 6 (by decide)) b2 .nil pass_cx (pa_cons (pv 1) pa_nil))))
      pss_nil)
    (pss_one (ps_ret (pe_gmake (M.mkB 7 (by decide)) GI (rm.mono (by decide)) gd rfl (M.gB 7 (by decide)) b2 .nil pass_cx (pa_cons (pv 1) pa_nil))))))))))), ?_⟩
    have h8 : n = 0 ∨ n = 1 ∨ n = 2 ∨ n = 3 ∨ n = 4 ∨ n = 5 ∨ n = 6 ∨ n = 7 := by omega
    rcases h8 with rfl | rfl | rfl | rfl | rfl | rfl | rfl | rfl
    · walk_at "go"
      walk_at "pick"
      walk_at "go"
      exact fin 0 (by decide) rfl
    · walk_at "go"
      walk_at "pick"
      walk_at "go"
      walk_at "pick"
      walk_at "go"
      exact fin 1 (by decide) rfl
    · walk_at "go"
      walk_at "pick"
      walk_at "go"
      walk_at "pick"
      walk_at "go"
      walk_at "pick"
      walk_at "go"
      exact fin 2 (by decide) rfl
    · walk_at "go"
      walk_at "pick"
      walk_at "go"
      walk_at "pick"
      walk_at "go"
      walk_at "pick"
      walk_at "go"
      walk_at "pick"
      walk_at "go"
      exact fin 3 (by decide) rfl
    · walk_at "go"
      walk_at "pick"
      walk_at "go"
      walk_at "pick"
      walk_at "go"
      walk_at "pick"
      walk_at "go"
      walk_at "pick"
      walk_at "go"
      walk_at "pick"
      walk_at "go"
      exact fin 4 (by decide) rfl
    · walk_at "go"
      walk_at "pick"
      walk_at "go"
      walk_at "pick"
      walk_at "go"
      walk_at "pick"
      walk_at "go"
      walk_at "pick"
      walk_at "go"
      walk_at "pick"
      walk_at "go"
      walk_at "pick"
      walk_at "go"
      exact fin 5 (by decide) rfl
    · walk_at "go"
      walk_at "pick"
      walk_at "go"
      walk_at "pick"
      walk_at "go"
      walk_at "pick"
      walk_at "go"
      walk_at "pick"
      walk_at "go"
      walk_at "pick"
      walk_at "go"
      walk_at "pick"
      walk_at "go"
      walk_at "pick"
      walk_at "go"
      exact fin 6 (by decide) rfl
    · walk_at "go"
      walk_at "pick"
      walk_at "go"
      walk_at "pick"
      walk_at "go"
      walk_at "pick"
      walk_at "go"
      walk_at "pick"
      walk_at "go"
      walk_at "pick"
      walk_at "go"
      walk_at "pick"
      walk_at "go"
      walk_at "pick"
      walk_at "go"
      exact fin 7 (by decide) rfl
theorem ok_bit (D : DefAt K mg "_law_bit" s__law_bit ["_law_number", "_law_begin"]) (M : MB K mg CL fI fK) (GI : Gd P w K mg base (L2.CX P w) 4 fI fdI ["self", "value"] (spBI c0 CL)) (b2 : Binds K fdI ["self", "value"] []) (c_law_plain_bit : CalX P w K mg base 6 "_law_plain_bit" ["_law_number", "_law_begin"] (spMkB C c0 CL 8)) : CalX P w K mg base 7 "_law_bit" ["_law_number", "_law_begin"] (spMkB C c0 CL 16) := by
  refine D.calX (k := 6) sc__law_bit (fun vs H Q E h => ?_) (fun f cdv A outer s H vs Q E rm gd h => ?_)
  · obtain ⟨n, x, rfl, _⟩ := h
    rfl
  · obtain ⟨n, x, rfl, hn, bt⟩ := h
    have fin : ∀ m, m < 16 → n = m → Make (cB CL m) (spBI c0 CL) (fun z => z :: ([x] ++ [])) E H Q := fun m hm e => by
      subst e
      refine make fun y dx H9 ny hy sy => ?_
      refine ⟨y, n, cB CL n, dx, x, rfl, M.at_ (by omega), hy, bt.imp sy fun b hb ok H' h' c => ⟨rfl, ?_⟩⟩
      have hm := w_mem n (by omega)
      exact ok y H' ny (mk_plain (by omega) (M.at_ (by omega)) h' rfl (.inl hb) hm) fun q o e => c q o (sy q o e) (ne_of_none e ny)
    refine ⟨_, (pss_cons (ps_if (pt_cmpR op_lt (pv 0) pe_int (nomark _))
      (pss_one (ps_ret (pcX c_law_plain_bit pass_cx rm (by decide) gd rfl (pa_cons (pv 0) (pa_cons (pv 1) pa_nil)))))
      pss_nil)
    (pss_cons (ps_if (pt_cmpR op_eq (pv 0) pe_int (nomark _))
      (pss_one (ps_ret (pe_gmake (M.mkB 8 (by decide)) GI (rm.mono (by decide)) gd rfl (M.gB 8 (by decide)) b2 .nil pass_cx (pa_cons (pv 1) pa_nil))))
      pss_nil)
    (pss_cons (ps_if (pt_cmpR op_eq (pv 0) pe_int (nomark _))
      (pss_one (ps_ret (pe_gmake (M.mkB 9 (by decide)) GI (rm.mono (by decide)) gd rfl (M.gB 9 (by decide)) b2 .nil pass_cx (pa_cons (pv 1) pa_nil))))
      pss_nil)
    (pss_cons (ps_if (pt_cmpR op_eq (pv 0) pe_int (nomark _))
      (pss_one (ps_ret (pe_gmake (M.mkB 10 (by decide)) GI (rm.mono (by decide)) gd rfl (M.gB 10 (by decide)) b2 .nil pass_cx (pa_cons (pv 1) pa_nil))))
      pss_nil)
    (pss_cons (ps_if (pt_cmpR op_eq (pv 0) pe_int (nomark _))
      (pss_one (ps_ret (pe_gmake (M.mkB 11 (by decide)) GI (rm.mono (by decide)) gd rfl (M.gB 11 (by decide)) b2 .nil pass_cx (pa_cons (pv 1) pa_nil))))
      pss_nil)
    (pss_cons (ps_if (pt_cmpR op_eq (pv 0) pe_int (nomark _))
      (pss_one (ps_ret (pe_gmake (M.mkB 12 (by decide)) GI (rm.mono (by decide)) gd rfl (M.gB 12 (by decide)) b2 .nil pass_cx (pa_cons (pv 1) pa_nil))))
      pss_nil)
    (pss_cons (ps_if (pt_cmpR op_eq (pv 0) pe_int (nomark _))
      (pss_one (ps_ret (pe_gmake (M.mkB 13 (by decide)) GI (rm.mono (by decide)) gd rfl (M.gB 13 (by decide)) b2 .nil pass_cx (pa_cons (pv 1) pa_nil))))
      pss_nil)
    (pss_cons (ps_if (pt_cmpR op_eq (pv 0) pe_int (nomark _))
      (pss_one (ps_ret (pe_gmake (M.mkB 14 (by decide)) GI (rm.mono (by decide)) gd rfl (M.gB 14 (by decide)) b2 .nil pass_cx (pa_cons (pv 1) pa_nil))))
      pss_nil)
    (pss_one (ps_ret (pe_gmake (M.mkB 15 (by decide)) GI (rm.mono (by decide)) gd rfl (M.gB 15 (by decide)) b2 .nil pass_cx (pa_cons (pv 1) pa_nil)))))))))))), ?_⟩
    by_cases h8 : n < 8
    · walk_at "go"
      refine ite2 (fun _ => ?_) fun h => absurd (decide_eq_true (by omega)) h
      walk_at "go"
      exact ⟨n, x, rfl, h8, bt⟩
    have h16 : n = 8 ∨ n = 9 ∨ n = 10 ∨ n = 11 ∨ n = 12 ∨ n = 13 ∨ n = 14 ∨ n = 15 := by omega
    rcases h16 with rfl | rfl | rfl | rfl | rfl | rfl | rfl | rfl
    · walk_at "go"
      walk_at "pick"
      walk_at "go"
      walk_at "pick"
      walk_at "go"
      exact fin 8 (by decide) rfl
    · walk_at "go"
      walk_at "pick"
      walk_at "go"
      walk_at "pick"
      walk_at "go"
      walk_at "pick"
      walk_at "go"
      exact fin 9 (by decide) rfl
    · walk_at "go"
      walk_at "pick"
      walk_at "go"
      walk_at "pick"
      walk_at "go"
      walk_at "pick"
      walk_at "go"
      walk_at "pick"
      walk_at "go"
      exact fin 10 (by decide) rfl
    · walk_at "go"
      walk_at "pick"
      walk_at "go"
      walk_at "pick"
      walk_at "go"
      walk_at "pick"
      walk_at "go"
      walk_at "pick"
      walk_at "go"
      walk_at "pick"
      walk_at "go"
      exact fin 11 (by decide) rfl
    · walk_at "go"
      walk_at "pick"
      walk_at "go"
      walk_at "pick"
      walk_at "go"
      walk_at "pick"
      walk_at "go"
      walk_at "pick"
      walk_at "go"
      walk_at "pick"
      walk_at "go"
      walk_at "pick"
      walk_at "go"
      exact fin 12 (by decide) rfl
    · walk_at "go"
      walk_at "pick"
      walk_at "go"
      walk_at "pick"
      walk_at "go"
      walk_at "pick"
      walk_at "go"
      walk_at "pick"
      walk_at "go"
      walk_at "pick"
      walk_at "go"
      walk_at "pick"
      walk_at "go"
      walk_at "pick"
      walk_at "go"
      exact fin 13 (by decide) rfl
    · walk_at "go"
      walk_at "pick"
      walk_at "go"
      walk_at "pick"
      walk_at "go"
      walk_at "pick"
      walk_at "go"
      walk_at "pick"
      walk_at "go"
      walk_at "pick"
      walk_at "go"
      walk_at "pick"
      walk_at "go"
      walk_at "pick"
      walk_at "go"
      walk_at "pick"
      walk_at "go"
      exact fin 14 (by decide) rfl
    · walk_at "go"
      walk_at "pick"
      walk_at "go"
      walk_at "pick"
      walk_at "go"
      walk_at "pick"
      walk_at "go"
      walk_at "pick"
      walk_at "go"
      walk_at "pick"
      walk_at "go"
      walk_at "pick"
      walk_at "go"
      walk_at "pick"
      walk_at "go"
      walk_at "pick"
      walk_at "go"
      exact fin 15 (by decide) rfl
end
end Law

set_option Elab.async false
set_option linter.all false
set_option maxRecDepth 100000
set_option maxHeartbeats 4000000
namespace Law
open PySem PySem.Spec PySem.Calls PyProof.Rows L2 KG LamX
local macro_rules | `(tactic| walk_at "1") => `(tactic| first
  | (with_reducible refine w_var rfl ?_) | (with_reducible refine w_c ?_) | (with_reducible refine w_seq ?_) | (with_reducible refine w_asg ?_) | (with_reducible refine w_gname ?_) | (with_reducible refine w_op ?_) | (with_reducible refine w_un ?_)
  | (with_reducible refine w_add ?_) | (with_reducible refine w_sub ?_) | ((with_reducible refine' w_mod ?mo ?_); (case mo => first | assumption | decide | omega)) | (with_reducible refine w_and ?_) | (with_reducible refine w_or ?_) | (with_reducible refine w_xor ?_)
  | (with_reducible refine w_gt ?_) | (with_reducible refine w_lt ?_) | (with_reducible refine w_ge ?_) | (with_reducible refine w_le ?_) | ((with_reducible refine' w_eq ?sc ?_); (case sc => rfl)) | ((with_reducible refine' w_ne ?sc ?_); (case sc => rfl))
  | (with_reducible refine w_ret ?_) | (with_reducible refine w_next ?_) | (with_reducible refine w_ifs ?_) | (with_reducible refine w_ifx ?_) | (with_reducible refine w_test ?_) | (with_reducible refine w_tB ?_) | (with_reducible refine w_bl ?_)
  | ((with_reducible refine' w_ixL ?ixh ?ixa ?_); (case ixh => first | exact SqL.of (by assumption)); (case ixa => first | rfl | skip)) | ((with_reducible refine' w_ixT ?ixh ?ixa ?_); (case ixh => first | exact SqT.of (by assumption)); (case ixa => first | rfl | skip))
  | ((with_reducible refine' w_fld ?_)) | ((with_reducible refine' fld ?fh ?fc ?fn ?fl ?_); (case fh => assumption); (case fc => assumption); (case fn => assumption); (case fl => rfl)) | (with_reducible refine w_sfld ?_)
  | (with_reducible refine Or.inl ⟨_, rfl, ?_⟩) | (with_reducible refine w_gsub ?_) | (with_reducible refine w_andV ?_) | (with_reducible refine w_orV ?_)
  | (with_reducible refine w_nil ?_) | (with_reducible refine w_cons ?_) | (with_reducible refine w_tup ?_) | (with_reducible refine w_lst ?_) | (with_reducible refine w_and2 ?_) | (with_reducible refine w_or2 ?_) | (with_reducible refine w_not ?_) | (with_reducible refine w_cb ?_) | (with_reducible refine w_call ?_) | (with_reducible refine w_par ?_) | (with_reducible refine w_pnil ?_) | (with_reducible refine w_pcons ?_) | (with_reducible refine w_dput ?_) | (with_reducible refine w_dget ?_) | (with_reducible refine w_for ?_) | (with_reducible refine w_itup ?_) | (with_reducible refine w_ilist ?_) | (with_reducible refine w_irng ?_) | (with_reducible refine w_meth ?_) | (with_reducible refine w_make ?_) | (with_reducible refine w_makeK ?_) | (with_reducible refine w_methK ?_) | ((with_reducible refine' mth ?mh ?ml ?_); (case mh => assumption); (case ml => rfl)) | (with_reducible refine w_drop ?_))
local macro_rules | `(tactic| walk_at "go") => `(tactic| ((repeat (walk_at "1")); try dsimp only))
local macro_rules | `(tactic| walk_at "1") => `(tactic| first
  | (with_reducible refine w_notV ?_) | (with_reducible refine w_callK ?_) | (with_reducible refine w_lc ?_) | (with_reducible refine w_chain ?_) | (with_reducible refine w_neg ?_) | ((with_reducible refine' w_shr ?mo ?_); (case mo => first | assumption | omega)))
local macro_rules | `(tactic| walk_at "pick") => `(tactic| first | (refine ite2 (fun h => absurd h (by decide)) fun _ => ?_) | (refine ite2 (fun _ => ?_) fun h => absurd (by decide) h))
/-! ### () + t -/
def rCat0 (K : PySem.W.Frag) : R2 := fun x y H Q => ∃ a b ys, x = .ref a ∧ y = .ref b ∧ SqT K H a [] ∧ SqT K H b ys ∧ Q (.ref b) H
def rCatE (K : PySem.W.Frag) : R2 := fun x y H Q => rCat0 K x y H Q ∨ rCatT K x y H Q
theorem op_catE {X : Cx} : OpR X (binaryOp .Add) (rCatE X.K) := by
  intro pins s σ H x y v u Q I rx ry h
  rcases h with h | h
  · obtain ⟨a, b, ys, rfl, rfl, ha, hb, q⟩ := h
    cases rx
    cases ry
    obtain ⟨its, r1, p1, _⟩ := I.tuple ha
    obtain ⟨its2, r2, p2, _⟩ := I.tuple hb
    cases r1
    obtain ⟨⟨cls, dd, data, sl⟩, ho, hc, n, hd⟩ := id p1
    obtain ⟨⟨cls2, dd2, data2, sl2⟩, ho2, hc2, n2, hd2⟩ := id p2
    simp only at hc hd hc2 hd2
    subst hc hd hc2 hd2
    exact concat_meets ⟨_, ho, rfl⟩ ⟨_, ho2, rfl⟩ noFill_tuple_add seq_tuple_add PySem.F.slot_tuple_add PySem.F.entry_tuple_add (PySem.F.args_tuple_add_2 _ _) (tuple_addW0 a b _ _ n n2 dd dd2 sl sl2 rfl) ⟨ho, ho2, ⟨.ref b, H, I, rfl, q⟩⟩
  · exact op_catT pins s σ H x y v u Q I rx ry h
theorem back {H H' : Hp} {a : Addr} (s : Same H H') (h : H' a = none) : H a = none := by
  cases e : H a with
  | none => rfl
  | some o =>
    rw [s _ _ e] at h
    cases h
theorem w_dget2 {td ty tx : TE} {σ : L2.St} {H : Hp} {Q : VK} (q : td σ H fun x H1 => ∃ a, x = .ref a ∧ IsD H1 a ∧ ty σ H1 fun y H2 => tx σ H2 fun z H3 => ∃ o, DGet H3 a y o ∧ Q (o.getD z) H3) : tDGet2 td ty tx σ H Q := q
/-! ### the law's own words of a kind -/
def spLRead : Sp := fun vs H Q _ => ∃ (r : Str) (s : Int), vs = [.str r, .int s] ∧ r ∈ RD ∧ St4 s ∧ Q (.int (rdF r s)) H
def spLWrite : Sp := fun vs H Q _ => ∃ (w : Str) (s b : Int), vs = [.str w, .int s, .int b] ∧ w ∈ WR ∧ Dom w s ∧ (b = 0 ∨ b = 1) ∧ ∀ H', Same H H' → Q (.int (awF w s b)) H'
def spDeeds : Sp := fun vs H Q _ => ∃ (d : Str) (s : Int), vs = [.str d, .int s] ∧ d ∈ DV ∧ St4 s ∧ ∀ t H', H' t = some (.tup (dvF d s)) → Same H H' → Q (.ref t) H'
section
variable {P : Program} {w : World} {K : PySem.W.Frag} {mg : Str → Option Value} {base : Heap}
theorem ok_lread (D : DefAt K mg "_law_read" s__law_read ["_law_reading", "_law_state"]) : Cal P w K mg base 1 "_law_read" spLRead := by
  refine D.cal sc__law_read (fun vs H Q E h => ?_) (fun f cdv A outer s H vs Q E rm gd h => ?_)
  · obtain ⟨r, s, rfl, _⟩ := h
    rfl
  · obtain ⟨r, s, rfl, hr, hs, q⟩ := h
    refine ⟨_, (pss_one (ps_ret (pe_ifExp (pt_cmpR op_eq (pv 0) pe_str (nomark _)) (pe_op op_sub (pv 1) (pe_op op_mod (pv 1) pe_int)) (pv 1)))), ?_⟩
    walk_at "go"
    unfold RD at hr
    simp only [List.mem_cons, List.not_mem_nil, or_false] at hr
    rcases hr with rfl | rfl
    · walk_at "pick"
      walk_at "go"
      exact q
    · walk_at "pick"
      walk_at "go"
      have e : rdF "take" s = s - s % 2 := by rcases hs with rfl | rfl | rfl | rfl <;> decide
      rw [e] at q
      exact q
theorem ok_lwrite (D : DefAt K mg "_law_write" s__law_write ["_law_writing", "_law_state", "_law_spot"]) : Cal P w K mg base 1 "_law_write" spLWrite := by
  refine D.cal sc__law_write (fun vs H Q E h => ?_) (fun f cdv A outer s H vs Q E rm gd h => ?_)
  · obtain ⟨w, s, b, rfl, _⟩ := h
    rfl
  · obtain ⟨wr, s, b, rfl, hw, dm, hb, q⟩ := h
    have hu := hu_of rm
    have hs := dm.st
    have e2 : s % 2 = 0 ∨ s % 2 = 1 := by omega
    refine ⟨_, (pss_cons (ps_par (i := 3) (j := 4) rfl sc__law_write.nd rfl rfl (by decide) rfl rfl (pa_cons (pe_op op_mod (pv 1) pe_int) (pa_cons (pe_op op_sub (pv 1) (pe_op op_mod (pv 1) pe_int)) pa_nil)) (by rfl))
    (pss_cons (ps_if (pt_cmpR op_eq (pv 0) pe_str (nomark _))
      (pss_one (ps_ret (pe_ifExp (pt_cmpR op_gt (pv 1) pe_int (nomark _)) (pv 1) (pe_op op_add pe_int (pv 2)))))
      pss_nil)
    (pss_cons (ps_set (i := 5) sc__law_write.nd rfl (Or.inl rfl) (pe_disp (pps_cons pe_str (pe_tup (pa_cons pe_int (pa_cons pe_int pa_nil))) (pps_cons pe_str (pe_tup (pa_cons (pv 3) (pa_cons pe_int pa_nil))) (pps_cons pe_str (pe_tup (pa_cons pe_int (pa_cons (pv 3) pa_nil))) (pps_cons pe_str (pe_tup (pa_cons (pv 3) (pa_cons pe_int pa_nil))) (pps_cons pe_str (pe_tup (pa_cons (pv 3) (pa_cons (pv 3) pa_nil))) pps_nil))))) (by rfl) (by rfl) (fun z => by cases z) (by decide)))
    (pss_cons (ps_dput hu (pv 5) pe_str (pe_tup (pa_cons (pv 3) (pa_cons (pe_op op_sub pe_int (pv 3)) pa_nil))) rfl)
    (pss_one (ps_ret (pe_op op_add (pv 4) (pe_ix ix_tup (pe_dget hu (pv 5) (pv 0) (fun _ _ => rfl)) (pv 2) (fun _ _ => rfl))))))))), ?_⟩
    walk_at "go"
    refine ⟨_, _, rfl, ?_⟩
    walk_at "go"
    by_cases ho : wr = "once"
    · subst ho
      walk_at "pick"
      walk_at "go"
      have fin : ∀ v, awF "once" s b = v → Q (.int v) H := fun v e => by
        rw [← e]
        exact q H (fun _ _ h => h)
      rcases hs with rfl | rfl | rfl | rfl
      · walk_at "pick"
        walk_at "go"
        exact fin _ (by rcases hb with rfl | rfl <;> decide)
      · walk_at "pick"
        walk_at "go"
        exact fin _ (by rcases hb with rfl | rfl <;> decide)
      · walk_at "pick"
        walk_at "go"
        exact fin _ (by rcases hb with rfl | rfl <;> decide)
      · walk_at "pick"
        walk_at "go"
        exact fin _ (by rcases hb with rfl | rfl <;> decide)
    · have two := dm.two ho
      refine ite2 (fun h => absurd (V.str.inj (of_decide_eq_true h)) ho) fun _ => ?_
      walk_at "go"
      refine w_disp fun d1 H1 n1 h1 s1 => ?_
      walk_at "go"
      refine new (show 2 ≤ sizeLine by decide) fun t1 H2 m1 g1 z1 => ?_
      walk_at "go"
      refine new (show 2 ≤ sizeLine by decide) fun t2 H3 m2 g2 z2 => ?_
      walk_at "go"
      refine new (show 2 ≤ sizeLine by decide) fun t3 H4 m3 g3 z3 => ?_
      walk_at "go"
      refine new (show 2 ≤ sizeLine by decide) fun t4 H5 m4 g4 z4 => ?_
      walk_at "go"
      refine new (show 2 ≤ sizeLine by decide) fun t5 H6 m5 g5 z5 => ?_
      walk_at "go"
      have hd1 : H6 d1 = some (.dK []) := z5 _ _ (z4 _ _ (z3 _ _ (z2 _ _ (z1 _ _ h1))))
      refine dall [(.inr "store", .ref t1), (.inr "clear1", .ref t2), (.inr "clear0", .ref t3), (.inr "set1", .ref t4), (.inr "none", .ref t5)] hd1 rfl (by show 5 ≤ 15; decide) rfl fun H7 h7 e7 => ?_
      walk_at "go"
      refine new (show 2 ≤ sizeLine by decide) fun t6 H8 m6 g6 z6 => ?_
      walk_at "go"
      refine dput (ks := [(.inr "store", .ref t1), (.inr "clear1", .ref t2), (.inr "clear0", .ref t3), (.inr "set1", .ref t4), (.inr "none", .ref t5), (.inr "flip1", .ref t6)]) (.inr "flip1") (z6 _ _ h7) (by show 5 < sizeLine; decide) rfl fun H9 h9 e9 => ?_
      walk_at "go"
      have g1' : ∀ (t : Addr) (x y : V) (G : Hp), G t = some (.tup [x, y]) → Same G H6 → H9 t = some (.tup [x, y]) := fun t x y G h z => by
        have n : t ≠ d1 := fun e => by
          have := z _ _ h
          rw [e, hd1] at this
          cases this
        exact (e9 t n).trans (z6 _ _ ((e7 t n).trans (z _ _ h)))
      have k1 := g1' t1 _ _ _ g1 (z2.trans (z3.trans (z4.trans z5)))
      have k2 := g1' t2 _ _ _ g2 (z3.trans (z4.trans z5))
      have k3 := g1' t3 _ _ _ g3 (z4.trans z5)
      have k4 := g1' t4 _ _ _ g4 z5
      have k5 := g1' t5 _ _ _ g5 fun _ _ h => h
      have k6 : H9 t6 = some (.tup [.int (s % 2), .int (1 - s % 2)]) := (e9 t6 fun e => by
        have := z6 _ _ h7
        have g7 := g6
        rw [e, this] at g7
        cases g7).trans g6
      have same : Same H H9 := fun q o h => by
        have h6 := z5 _ _ (z4 _ _ (z3 _ _ (z2 _ _ (z1 _ _ (s1 _ _ h)))))
        have nq : q ≠ d1 := ne_of_none h n1
        exact (e9 q nq).trans (z6 _ _ ((e7 q nq).trans h6))
      have fin : ∀ v, awF wr s b = v → Q (.int v) H9 := fun v e => by
        rw [← e]
        exact q H9 same
      unfold WR at hw
      simp only [List.mem_cons, List.not_mem_nil, or_false] at hw
      rcases hw with rfl | rfl | rfl | rfl | rfl | rfl | rfl
      · refine dget (v := .ref t1) (.inr "store") h9 rfl ?_
        rcases hb with rfl | rfl <;> (walk_at "go"; exact fin _ (by rcases two with rfl | rfl <;> decide))
      · refine dget (v := .ref t2) (.inr "clear1") h9 rfl ?_
        rcases hb with rfl | rfl <;> (walk_at "go"; exact fin _ (by rcases two with rfl | rfl <;> decide))
      · refine dget (v := .ref t3) (.inr "clear0") h9 rfl ?_
        rcases hb with rfl | rfl <;> (walk_at "go"; exact fin _ (by rcases two with rfl | rfl <;> decide))
      · refine dget (v := .ref t4) (.inr "set1") h9 rfl ?_
        rcases hb with rfl | rfl <;> (walk_at "go"; exact fin _ (by rcases two with rfl | rfl <;> decide))
      · refine dget (v := .ref t6) (.inr "flip1") h9 rfl ?_
        rcases hb with rfl | rfl <;> (walk_at "go"; exact fin _ (by rcases two with rfl | rfl <;> decide))
      · exact absurd rfl ho
      · refine dget (v := .ref t5) (.inr "none") h9 rfl ?_
        rcases hb with rfl | rfl <;> (walk_at "go"; exact fin _ (by rcases two with rfl | rfl <;> decide))
theorem ok_ldeeds (D : DefAt K mg "_law_deeds" s__law_deeds ["_law_device", "_law_state"]) : Cal P w K mg base 1 "_law_deeds" spDeeds := by
  refine D.cal sc__law_deeds (fun vs H Q E h => ?_) (fun f cdv A outer s H vs Q E rm gd h => ?_)
  · obtain ⟨d, s, rfl, _⟩ := h
    rfl
  · obtain ⟨d, s, rfl, hd, hs, q⟩ := h
    refine ⟨_, (pss_mid (ps_if (PW.pt (pw_or (pt_cmpR op_eq (pv 0) pe_str (nomark _)) (pw_or (PW.pt (pw_and (pt_cmpR op_eq (pv 0) pe_str (nomark _)) (pw_and1 (pt_cmpR op_eq (pe_op op_mod (pv 1) pe_int) pe_int (nomark _))))) (pw_or1 (PW.pt (pw_and (pt_cmpR op_eq (pv 0) pe_str (nomark _)) (pw_and1 (pt_cmpR op_eq (pe_op op_mod (pv 1) pe_int) pe_int (nomark _)))))))))
      (pss_one (ps_ret (pe_tup (pa_cons (pe_op op_sub (pe_op op_add (pv 1) pe_int) (pe_op op_mul pe_int (pe_op op_mod (pv 1) pe_int))) pa_nil))))
      pss_nil)
    (pss_one (ps_ret (pe_tup pa_nil)))), ?_⟩
    walk_at "go"
    refine w_mid (fun σ' H' => σ' = [some (.str d), some (.int s)] ∧ H' = H ∧ dvF d s = []) ?_ fun σ' H' ⟨e1, e2, e3⟩ => ?_
    · walk_at "go"
      have fin : ∀ (v : Int) (t : Addr) (H' : Hp), dvF d s = [.int v] → H' t = some (.tup [.int v]) → Same H H' → Q (.ref t) H' := fun v t H' e h z => q t H' (by rw [e]; exact h) z
      unfold DV at hd
      simp only [List.mem_cons, List.not_mem_nil, or_false] at hd
      rcases hd with rfl | rfl | rfl | rfl <;> rcases hs with rfl | rfl | rfl | rfl
      all_goals
        repeat (first | (walk_at "pick") | (walk_at "1") | (refine w_mul (.inl ⟨by decide, by decide⟩) ?_))
        first
        | exact ⟨rfl, rfl, by decide +kernel⟩
        | (refine new (by show 1 ≤ sizeLine; decide) fun t H2 n h z => ?_; exact fin _ t H2 (by decide +kernel) h z)
    · subst e1
      subst e2
      walk_at "go"
      refine new (show 0 ≤ sizeLine by decide) fun t H' n h z => ?_
      rw [e3] at q
      exact q t H' h z
end
/-! ### of which classes a bit is -/
def anc : Nat → List Nat
  | 0 => [0] | 1 => [0, 1] | 2 => [0, 2] | 3 => [0, 3] | 4 => [0, 4] | 5 => [0, 5] | 6 => [0, 6] | 7 => [0, 7] | 8 => [0, 8] | 9 => [0, 9]
  | 10 => [0, 8, 9, 10] | 11 => [0, 2, 8, 11] | 12 => [0, 1, 7, 8, 12] | 13 => [0, 4, 9, 13] | 14 => [0, 7, 8, 9, 10, 14] | 15 => [0, 1, 6, 15] | _ => [0, 16]
def subT (n i : Nat) : Bool := (anc n).contains i
def mkL (n : Nat) : List Int := ((List.range 17).filter (subT n)).map fun i => ((i : Nat) : Int)
def moreL : Nat → List Int
  | 10 => [8, 9] | 11 => [2, 8] | 12 => [1, 7, 8] | 13 => [4, 9] | 14 => [7, 8, 9, 10] | 15 => [1, 6] | _ => []
theorem above_in : ∀ n : Nat, n < 16 → ∀ k ∈ ([0, (n : Int)] ++ moreL n), k ∈ mkL n := by decide +kernel
structure IB (K : PySem.W.Frag) (CL : List Addr) : Prop where
  isC : ∀ (n : Nat) (C : Addr), CL[n]? = some C → PySem.W.findIn K (.ref C) "__class__" = some (some (.builtin "object.__class__"))
  isG : PySem.W.specialIn K (.builtin "object.__class__") "__get__" = some (some (.builtin "getset_descriptor.__get__"))
  isT : PySem.W.takesIn K (.builtin "object.__class__") = some true
  isM : ∀ (n : Nat) (C : Addr), CL[n]? = some C → PySem.W.mroIn K C (.type "object") = some true
  kit : ∀ (n i : Nat) (C D : Addr), CL[n]? = some C → CL[i]? = some D → PySem.W.kitOne K (.ref C) (.ref D) = some (subT n i)
def spMarks (CL : List Addr) : Sp := fun vs H Q _ => ∃ (a : Addr) (n : Nat) (C dx : Addr) (fs : List (Str × V)), vs = [.ref a] ∧ CL[n]? = some C ∧ H a = some (.ins C dx fs) ∧ ∀ t H', H t = none → H' t = some (.lst ((mkL n).map V.int)) → Same H H' → Q (.ref t) H'
def spAbove : Sp := fun vs H Q _ => ∃ n : Nat, vs = [.int n] ∧ n < 16 ∧ ∀ (t : Addr) (ns : List Int) H', H t = none → H' t = some (.lst (ns.map V.int)) → ns.length ≤ 6 → (∀ k ∈ ns, k ∈ mkL n) → Same H H' → Q (.ref t) H'
section
variable {P : Program} {w : World} {K : PySem.W.Frag} {mg : Str → Option Value} {base : Heap} {CL : List Addr} {fI fK : Addr}
theorem isi_at {a n i : Nat} {C dx : Addr} {fs : List (Str × V)} {H : Hp} {Q : VK} (M : MB K mg CL fI fK) (TT : TB K CL) (I : IB K CL) (hC : CL[n]? = some C) (ha : H a = some (.ins C dx fs)) (hi : i < 17) (q : Q (.bl (subT n i)) H) : rIsi K [.ref a, .ref (cB CL i)] H Q :=
  ⟨.ref a, .ref (cB CL i), .ref C, .ref (cB CL i), subT n i, rfl, .own _, .base (.ins ha (TT.cl n C hC) (I.isC n C hC) I.isG I.isT (I.isM n C hC)), I.kit n i C _ hC (M.at_ hi), q⟩
theorem ok_marks (D : DefAt K mg "_law_marks" s__law_marks ["_law_spot"]) (B : B1 mg) (M : MB K mg CL fI fK) (TT : TB K CL) (IS : IB K CL) : Cal P w K mg base 1 "_law_marks" (spMarks CL) := by
  refine D.cal sc__law_marks (fun vs H Q E h => ?_) (fun f cdv A outer s H vs Q E rm gd h => ?_)
  · obtain ⟨a, n, C, dx, fs, rfl, _⟩ := h
    rfl
  · obtain ⟨a, n, C, dx, fs, rfl, hC, ha, q⟩ := h
    refine ⟨_, (pss_cons (ps_set (i := 1) sc__law_marks.nd rfl (Or.inr rfl) (pe_lst (pa_cons (pe_callB call_isi (by rfl) B.g_isinstance (by decide +kernel) (pa_cons (pv 0) (pa_cons (pe_glob (v := .ref (cB CL 0)) rfl (M.gB 0 (by decide)) rfl) pa_nil))) (pa_cons (pe_callB call_isi (by rfl) B.g_isinstance (by decide +kernel) (pa_cons (pv 0) (pa_cons (pe_glob (v := .ref (cB CL 1)) rfl (M.gB 1 (by decide)) rfl) pa_nil))) (pa_cons (pe_callB call_isi (by rfl) B.g_isinstance (by decide +kernel) (pa_cons (pv 0) (pa_cons (pe_glob (v := .ref (cB CL 2)) rfl (M.gB 2 (by decide)) rfl) pa_nil))) pa_nil)))))
    (pss_cons (ps_set (i := 1) sc__law_marks.nd rfl (Or.inr rfl) (pe_op op_cat (pv 1) (pe_lst (pa_cons (pe_callB call_isi (by rfl) B.g_isinstance (by decide +kernel) (pa_cons (pv 0) (pa_cons (pe_glob (v := .ref (cB CL 3)) rfl (M.gB 3 (by decide)) rfl) pa_nil))) (pa_cons (pe_callB call_isi (by rfl) B.g_isinstance (by decide +kernel) (pa_cons (pv 0) (pa_cons (pe_glob (v := .ref (cB CL 4)) rfl (M.gB 4 (by decide)) rfl) pa_nil))) (pa_cons (pe_callB call_isi (by rfl) B.g_isinstance (by decide +kernel) (pa_cons (pv 0) (pa_cons (pe_glob (v := .ref (cB CL 5)) rfl (M.gB 5 (by decide)) rfl) pa_nil))) pa_nil))))))
    (pss_cons (ps_set (i := 1) sc__law_marks.nd rfl (Or.inr rfl) (pe_op op_cat (pv 1) (pe_lst (pa_cons (pe_callB call_isi (by rfl) B.g_isinstance (by decide +kernel) (pa_cons (pv 0) (pa_cons (pe_glob (v := .ref (cB CL 6)) rfl (M.gB 6 (by decide)) rfl) pa_nil))) (pa_cons (pe_callB call_isi (by rfl) B.g_isinstance (by decide +kernel) (pa_cons (pv 0) (pa_cons (pe_glob (v := .ref (cB CL 7)) rfl (M.gB 7 (by decide)) rfl) pa_nil))) (pa_cons (pe_callB call_isi (by rfl) B.g_isinstance (by decide +kernel) (pa_cons (pv 0) (pa_cons (pe_glob (v := .ref (cB CL 8)) rfl (M.gB 8 (by decide)) rfl) pa_nil))) pa_nil))))))
    (pss_cons (ps_set (i := 1) sc__law_marks.nd rfl (Or.inr rfl) (pe_op op_cat (pv 1) (pe_lst (pa_cons (pe_callB call_isi (by rfl) B.g_isinstance (by decide +kernel) (pa_cons (pv 0) (pa_cons (pe_glob (v := .ref (cB CL 9)) rfl (M.gB 9 (by decide)) rfl) pa_nil))) (pa_cons (pe_callB call_isi (by rfl) B.g_isinstance (by decide +kernel) (pa_cons (pv 0) (pa_cons (pe_glob (v := .ref (cB CL 10)) rfl (M.gB 10 (by decide)) rfl) pa_nil))) (pa_cons (pe_callB call_isi (by rfl) B.g_isinstance (by decide +kernel) (pa_cons (pv 0) (pa_cons (pe_glob (v := .ref (cB CL 11)) rfl (M.gB 11 (by decide)) rfl) pa_nil))) pa_nil))))))
    (pss_cons (ps_set (i := 1) sc__law_marks.nd rfl (Or.inr rfl) (pe_op op_cat (pv 1) (pe_lst (pa_cons (pe_callB call_isi (by rfl) B.g_isinstance (by decide +kernel) (pa_cons (pv 0) (pa_cons (pe_glob (v := .ref (cB CL 12)) rfl (M.gB 12 (by decide)) rfl) pa_nil))) (pa_cons (pe_callB call_isi (by rfl) B.g_isinstance (by decide +kernel) (pa_cons (pv 0) (pa_cons (pe_glob (v := .ref (cB CL 13)) rfl (M.gB 13 (by decide)) rfl) pa_nil))) (pa_cons (pe_callB call_isi (by rfl) B.g_isinstance (by decide +kernel) (pa_cons (pv 0) (pa_cons (pe_glob (v := .ref (cB CL 14)) rfl (M.gB 14 (by decide)) rfl) pa_nil))) pa_nil))))))
    (pss_cons (ps_set (i := 1) sc__law_marks.nd rfl (Or.inr rfl) (pe_op op_cat (pv 1) (pe_lst (pa_cons (pe_callB call_isi (by rfl) B.g_isinstance (by decide +kernel) (pa_cons (pv 0) (pa_cons (pe_glob (v := .ref (cB CL 15)) rfl (M.gB 15 (by decide)) rfl) pa_nil))) (pa_cons (pe_callB call_isi (by rfl) B.g_isinstance (by decide +kernel) (pa_cons (pv 0) (pa_cons (pe_glob (v := .ref (cB CL 16)) rfl (M.gB 16 (by decide)) rfl) pa_nil))) pa_nil)))))
    (pss_one (ps_ret (pe_lc (own := [("_law_number", 2)]) (g := (gName 2)) (by rfl) sc__law_marks.nd (pi_range1 rfl B.g_range (pa_cons pe_int pa_nil)) (blkOk_by (own := [("_law_number", 2)]) (N := ["_law_spot", "_law_marks_here", "_law_number"]) (sc := defScope s__law_marks) (by decide +kernel)) (fun _ _ _ _ _ => (pg_name (i := 2) sc__law_marks.nd rfl (Or.inl rfl))) (fun _ _ _ _ _ => (pts_one (pt_val (pe_ix (r := rIxL K) ix_list (pv 1) (pv 2) (fun _ _ => rfl))))) (fun _ _ _ _ _ => (pv 2))))))))))), ?_⟩
    walk_at "go"
    refine isi_at M TT IS hC ha (show 0 < 17 by decide) ?_
    walk_at "go"
    refine isi_at M TT IS hC ha (show 1 < 17 by decide) ?_
    walk_at "go"
    refine isi_at M TT IS hC ha (show 2 < 17 by decide) ?_
    walk_at "go"
    refine new (show 3 ≤ sizeLine by decide) fun t1 H1 n1 h1 z1 => ?_
    have s1 := z1
    walk_at "go"
    refine isi_at M TT IS hC (s1 _ _ ha) (show 3 < 17 by decide) ?_
    walk_at "go"
    refine isi_at M TT IS hC (s1 _ _ ha) (show 4 < 17 by decide) ?_
    walk_at "go"
    refine isi_at M TT IS hC (s1 _ _ ha) (show 5 < 17 by decide) ?_
    walk_at "go"
    refine new (show 3 ≤ sizeLine by decide) fun t2 H2 n2 h2 z2 => ?_
    have s2 := s1.trans z2
    refine w_cat (z2 _ _ h1) h2 rfl (show 6 ≤ sizeLine by decide) fun t3 H3 n3 h3 z3 => ?_
    have s3 := s2.trans z3
    walk_at "go"
    refine isi_at M TT IS hC (s3 _ _ ha) (show 6 < 17 by decide) ?_
    walk_at "go"
    refine isi_at M TT IS hC (s3 _ _ ha) (show 7 < 17 by decide) ?_
    walk_at "go"
    refine isi_at M TT IS hC (s3 _ _ ha) (show 8 < 17 by decide) ?_
    walk_at "go"
    refine new (show 3 ≤ sizeLine by decide) fun t4 H4 n4 h4 z4 => ?_
    have s4 := s3.trans z4
    refine w_cat (z4 _ _ h3) h4 rfl (show 9 ≤ sizeLine by decide) fun t5 H5 n5 h5 z5 => ?_
    have s5 := s4.trans z5
    walk_at "go"
    refine isi_at M TT IS hC (s5 _ _ ha) (show 9 < 17 by decide) ?_
    walk_at "go"
    refine isi_at M TT IS hC (s5 _ _ ha) (show 10 < 17 by decide) ?_
    walk_at "go"
    refine isi_at M TT IS hC (s5 _ _ ha) (show 11 < 17 by decide) ?_
    walk_at "go"
    refine new (show 3 ≤ sizeLine by decide) fun t6 H6 n6 h6 z6 => ?_
    have s6 := s5.trans z6
    refine w_cat (z6 _ _ h5) h6 rfl (show 12 ≤ sizeLine by decide) fun t7 H7 n7 h7 z7 => ?_
    have s7 := s6.trans z7
    walk_at "go"
    refine isi_at M TT IS hC (s7 _ _ ha) (show 12 < 17 by decide) ?_
    walk_at "go"
    refine isi_at M TT IS hC (s7 _ _ ha) (show 13 < 17 by decide) ?_
    walk_at "go"
    refine isi_at M TT IS hC (s7 _ _ ha) (show 14 < 17 by decide) ?_
    walk_at "go"
    refine new (show 3 ≤ sizeLine by decide) fun t8 H8 n8 h8 z8 => ?_
    have s8 := s7.trans z8
    refine w_cat (z8 _ _ h7) h8 rfl (show 15 ≤ sizeLine by decide) fun t9 H9 n9 h9 z9 => ?_
    have s9 := s8.trans z9
    walk_at "go"
    refine isi_at M TT IS hC (s9 _ _ ha) (show 15 < 17 by decide) ?_
    walk_at "go"
    refine isi_at M TT IS hC (s9 _ _ ha) (show 16 < 17 by decide) ?_
    walk_at "go"
    refine new (show 2 ≤ sizeLine by decide) fun t10 H10 n10 h10 z10 => ?_
    have s10 := s9.trans z10
    refine w_cat (z10 _ _ h9) h10 rfl (show 17 ≤ sizeLine by decide) fun t11 H11 n11 h11 z11 => ?_
    have s11 := s10.trans z11
    walk_at "go"
    have sM : (List.range 17).map (fun i => V.bl (subT n i)) = [.bl (subT n 0), .bl (subT n 1), .bl (subT n 2), .bl (subT n 3), .bl (subT n 4), .bl (subT n 5), .bl (subT n 6), .bl (subT n 7), .bl (subT n 8), .bl (subT n 9), .bl (subT n 10), .bl (subT n 11), .bl (subT n 12), .bl (subT n 13), .bl (subT n 14), .bl (subT n 15), .bl (subT n 16)] := rfl
    have h11 : H11 t11 = some (.lst ((List.range 17).map fun i => V.bl (subT n i))) := by
      rw [sM]
      exact h11
    refine over_r (by decide) (by decide) ?_
    intro D1 nD1
    have zD : Same H11 (upd H11 D1 (.lst [])) := fun b u e => by
      rw [upd_ne (ne_of_none e nD1)]
      exact e
    refine lc_range (lo := 0) (n := 17) (fun i H' => H' D1 = some (.lst ((((List.range i).filter (subT n)).map fun i => ((i : Nat) : Int)).map V.int)) ∧ Same H11 H') ⟨upd_same, zD⟩ (fun i G hi ⟨hD, z⟩ => ?_) (fun G ⟨hD, z⟩ => ?_)
    · rw [Int.zero_add]
      walk_at "go"
      refine ⟨rfl, ?_⟩
      have at_i : ((List.range 17).map fun i => V.bl (subT n i))[i]? = some (.bl (subT n i)) := by
        rw [List.getElem?_map, List.getElem?_range hi]
        rfl
      walk_at "go"
      refine w_ixL (SqL.of (z _ _ h11)) (atI_nat at_i) ?_
      have ef : (List.range (i + 1)).filter (subT n) = (List.range i).filter (subT n) ++ (if subT n i = true then [i] else []) := by
        rw [List.range_succ, List.filter_append]
        cases h : subT n i <;> simp [h]
      cases hb : subT n i with
      | false =>
        rw [hb] at ef
        refine ⟨false, rfl, iteF ?_⟩
        rw [ef, if_neg (by decide), List.append_nil]
        exact ⟨hD, z⟩
      | true =>
        rw [hb] at ef
        refine ⟨true, rfl, iteT ?_⟩
        walk_at "go"
        refine ⟨_, hD, ?_, ?_, fun b o e => ?_⟩
        · rw [List.length_map, List.length_map]
          refine Nat.lt_of_le_of_lt (List.length_filter_le _ _) ?_
          rw [List.length_range]
          exact Nat.lt_of_lt_of_le (show i < 17 by omega) (by decide)
        · rw [upd_same, ef, if_pos rfl, List.map_append, List.map_append]
          rfl
        · rw [upd_ne (ne_of_none e nD1)]
          exact z _ _ e
    · exact q D1 G (back s11 nD1) hD (s11.trans z)
theorem ok_above (D : DefAt K mg "_law_above" s__law_above ["_law_number"]) (B : B1 mg) (gSet : mg "set" = none) (gSorted : mg "sorted" = none) : Cal P w K mg base 1 "_law_above" spAbove := by
  refine D.cal sc__law_above (fun vs H Q E h => ?_) (fun f cdv A outer s H vs Q E rm gd h => ?_)
  · obtain ⟨n, rfl, _⟩ := h
    rfl
  · obtain ⟨n, rfl, hn, q⟩ := h
    have hu := hu_of rm
    refine ⟨_, (pss_cons (ps_set (i := 1) sc__law_above.nd rfl (Or.inl rfl) (pe_disp (pps_cons pe_int (pe_lst (pa_cons pe_int (pa_cons pe_int pa_nil))) (pps_cons pe_int (pe_lst (pa_cons pe_int (pa_cons pe_int pa_nil))) (pps_cons pe_int (pe_lst (pa_cons pe_int (pa_cons pe_int (pa_cons pe_int pa_nil)))) (pps_cons pe_int (pe_lst (pa_cons pe_int (pa_cons pe_int pa_nil))) (pps_cons pe_int (pe_lst (pa_cons pe_int (pa_cons pe_int (pa_cons pe_int (pa_cons pe_int pa_nil))))) (pps_cons pe_int (pe_lst (pa_cons pe_int (pa_cons pe_int pa_nil))) pps_nil)))))) (by rfl) (by rfl) (fun z => by cases z) (by decide)))
    (pss_one (ps_ret (pe_callB (cr_sortedSet rfl) (by rfl) gSorted (by decide +kernel) (pa_cons (pe_callTy (cr_setI rfl) (by rfl) gSet (by decide +kernel) (pa_cons (pe_op op_cat (pe_lst (pa_cons pe_int (pa_cons (pv 0) pa_nil))) (pe_dget2 hu (pv 1) (pv 0) (pe_lst pa_nil) ⟨rfl, rfl, rfl, rfl⟩)) pa_nil)) pa_nil))))), ?_⟩
    walk_at "go"
    refine w_disp fun d1 H1 n1 h1 s1 => ?_
    walk_at "go"
    refine new (show 2 ≤ sizeLine by decide) fun t1 H2 m1 g1 z1 => ?_
    walk_at "go"
    refine new (show 2 ≤ sizeLine by decide) fun t2 H3 m2 g2 z2 => ?_
    walk_at "go"
    refine new (show 3 ≤ sizeLine by decide) fun t3 H4 m3 g3 z3 => ?_
    walk_at "go"
    refine new (show 2 ≤ sizeLine by decide) fun t4 H5 m4 g4 z4 => ?_
    walk_at "go"
    refine new (show 4 ≤ sizeLine by decide) fun t5 H6 m5 g5 z5 => ?_
    walk_at "go"
    refine new (show 2 ≤ sizeLine by decide) fun t6 H7 m6 g6 z6 => ?_
    walk_at "go"
    have hd1 : H7 d1 = some (.dK []) := z6 _ _ (z5 _ _ (z4 _ _ (z3 _ _ (z2 _ _ (z1 _ _ h1)))))
    refine dall [(.inl 10, .ref t1), (.inl 11, .ref t2), (.inl 12, .ref t3), (.inl 13, .ref t4), (.inl 14, .ref t5), (.inl 15, .ref t6)] hd1 rfl (by show 6 ≤ 15; decide) rfl fun H8 h8 e8 => ?_
    have nd : ∀ (t : Addr) (xs : List V), H7 t = some (.lst xs) → H8 t = some (.lst xs) := fun t xs h => (e8 t fun e => by
      rw [e, hd1] at h
      cases h).trans h
    have k1 := nd _ _ (z6 _ _ (z5 _ _ (z4 _ _ (z3 _ _ (z2 _ _ g1)))))
    have k2 := nd _ _ (z6 _ _ (z5 _ _ (z4 _ _ (z3 _ _ g2))))
    have k3 := nd _ _ (z6 _ _ (z5 _ _ (z4 _ _ g3)))
    have k4 := nd _ _ (z6 _ _ (z5 _ _ g4))
    have k5 := nd _ _ (z6 _ _ g5)
    have k6 := nd _ _ g6
    have s8 : Same H H8 := fun q o h => (e8 q (ne_of_none h n1)).trans (z6 _ _ (z5 _ _ (z4 _ _ (z3 _ _ (z2 _ _ (z1 _ _ (s1 _ _ h)))))))
    walk_at "go"
    refine new (show 2 ≤ sizeLine by decide) fun l1 G1 y1 i1 x1 => ?_
    walk_at "go"
    refine w_dget2 ?_
    walk_at "go"
    refine ⟨d1, rfl, .inl ⟨_, .inl (x1 _ _ h8)⟩, ?_⟩
    walk_at "go"
    refine new (show 0 ≤ sizeLine by decide) fun l2 G2 y2 i2 x2 => ?_
    have x12 := x1.trans x2
    refine ⟨_, DGet.k (k := Sum.inl (n : Int)) (x12 _ _ h8), ?_⟩
    have hm : ∃ lm, (valV (mergeK [] [((Sum.inl 10 : Key), V.ref t1), (Sum.inl 11, V.ref t2), (Sum.inl 12, V.ref t3), (Sum.inl 13, V.ref t4), (Sum.inl 14, V.ref t5), (Sum.inl 15, V.ref t6)]) (Sum.inl (n : Int))).getD (V.ref l2) = .ref lm ∧ G2 lm = some (.lst ((moreL n).map V.int)) := by
      have h16 : n = 0 ∨ n = 1 ∨ n = 2 ∨ n = 3 ∨ n = 4 ∨ n = 5 ∨ n = 6 ∨ n = 7 ∨ n = 8 ∨ n = 9 ∨ n = 10 ∨ n = 11 ∨ n = 12 ∨ n = 13 ∨ n = 14 ∨ n = 15 := by omega
      rcases h16 with rfl | rfl | rfl | rfl | rfl | rfl | rfl | rfl | rfl | rfl | rfl | rfl | rfl | rfl | rfl | rfl
      iterate 10 exact ⟨l2, rfl, i2⟩
      · exact ⟨t1, rfl, x12 _ _ k1⟩
      · exact ⟨t2, rfl, x12 _ _ k2⟩
      · exact ⟨t3, rfl, x12 _ _ k3⟩
      · exact ⟨t4, rfl, x12 _ _ k4⟩
      · exact ⟨t5, rfl, x12 _ _ k5⟩
      · exact ⟨t6, rfl, x12 _ _ k6⟩
    obtain ⟨lm, em, hlm⟩ := hm
    have lenM : (moreL n).length ≤ 4 := by
      have : ∀ m : Nat, m < 16 → (moreL m).length ≤ 4 := by decide +kernel
      exact this n hn
    rw [em]
    refine w_cat (x2 _ _ i1) hlm rfl (by rw [List.length_append, List.length_map]; exact Nat.le_trans (show 2 + (moreL n).length ≤ 6 by omega) (by decide)) fun l3 G3 y3 i3 x3 => ?_
    walk_at "go"
    have elist : [V.int 0, V.int (n : Int)] ++ (moreL n).map V.int = (([0, (n : Int)] ++ moreL n).map V.int) := by
      rw [List.map_append]
      rfl
    rw [elist] at i3
    have len6 : ([0, (n : Int)] ++ moreL n).length ≤ 6 := by
      rw [List.length_append]
      show 2 + (moreL n).length ≤ 6
      omega
    refine ⟨l3, _, rfl, SqL.of i3, Nat.le_trans len6 (by decide), fun aS c na hc => ?_⟩
    have x4 : Same G3 (upd G3 aS (SetO w aS (fun j => decide (j ∈ [0, (n : Int)] ++ moreL n)) c)) := fun b o e => by
      rw [upd_ne (ne_of_none e na)]
      exact e
    have i4 : upd G3 aS (SetO w aS (fun j => decide (j ∈ [0, (n : Int)] ++ moreL n)) c) aS = some (SetO w aS (fun j => decide (j ∈ [0, (n : Int)] ++ moreL n)) c) := upd_same
    show _root_.L2.tNil _ (upd G3 aS (SetO w aS (fun j => decide (j ∈ [0, (n : Int)] ++ moreL n)) c)) _
    generalize upd G3 aS (SetO w aS (fun j => decide (j ∈ [0, (n : Int)] ++ moreL n)) c) = G4 at x4 i4
    walk_at "go"
    refine ⟨aS, _, c, rfl, i4, by omega, fun ns p pw hm hl np => ?_⟩
    have sH : Same H G4 := s8.trans (x12.trans (x3.trans x4))
    refine q p ns _ (back sH np) upd_same (by omega) (fun k hk => above_in n hn k (of_decide_eq_true ((hm k).mp hk))) (fun b o e => ?_)
    rw [upd_ne (ne_of_none (sH _ _ e) np)]
    exact sH _ _ e
end
end Law

set_option Elab.async false
set_option linter.all false
set_option maxRecDepth 100000
set_option maxHeartbeats 4000000
namespace Law
open PySem PySem.Spec PySem.Calls PyProof.Rows L2 KG LamX
local macro_rules | `(tactic| walk_at "1") => `(tactic| first
  | (with_reducible refine w_var rfl ?_) | (with_reducible refine w_c ?_) | (with_reducible refine w_seq ?_) | (with_reducible refine w_asg ?_) | (with_reducible refine w_gname ?_) | (with_reducible refine w_op ?_) | (with_reducible refine w_un ?_)
  | (with_reducible refine w_add ?_) | (with_reducible refine w_sub ?_) | ((with_reducible refine' w_mod ?mo ?_); (case mo => first | assumption | decide | omega)) | (with_reducible refine w_and ?_) | (with_reducible refine w_or ?_) | (with_reducible refine w_xor ?_)
  | (with_reducible refine w_gt ?_) | (with_reducible refine w_lt ?_) | (with_reducible refine w_ge ?_) | (with_reducible refine w_le ?_) | ((with_reducible refine' w_eq ?sc ?_); (case sc => rfl)) | ((with_reducible refine' w_ne ?sc ?_); (case sc => rfl))
  | (with_reducible refine w_ret ?_) | (with_reducible refine w_next ?_) | (with_reducible refine w_ifs ?_) | (with_reducible refine w_ifx ?_) | (with_reducible refine w_test ?_) | (with_reducible refine w_tB ?_) | (with_reducible refine w_bl ?_)
  | ((with_reducible refine' w_ixL ?ixh ?ixa ?_); (case ixh => first | exact SqL.of (by assumption)); (case ixa => first | rfl | skip)) | ((with_reducible refine' w_ixT ?ixh ?ixa ?_); (case ixh => first | exact SqT.of (by assumption)); (case ixa => first | rfl | skip))
  | ((with_reducible refine' w_fld ?_)) | ((with_reducible refine' fld ?fh ?fc ?fn ?fl ?_); (case fh => assumption); (case fc => assumption); (case fn => assumption); (case fl => rfl)) | (with_reducible refine w_sfld ?_)
  | (with_reducible refine Or.inl ⟨_, rfl, ?_⟩) | (with_reducible refine w_gsub ?_) | (with_reducible refine w_andV ?_) | (with_reducible refine w_orV ?_)
  | (with_reducible refine w_nil ?_) | (with_reducible refine w_cons ?_) | (with_reducible refine w_tup ?_) | (with_reducible refine w_lst ?_) | (with_reducible refine w_and2 ?_) | (with_reducible refine w_or2 ?_) | (with_reducible refine w_not ?_) | (with_reducible refine w_cb ?_) | (with_reducible refine w_call ?_) | (with_reducible refine w_par ?_) | (with_reducible refine w_pnil ?_) | (with_reducible refine w_pcons ?_) | (with_reducible refine w_dput ?_) | (with_reducible refine w_dget ?_) | (with_reducible refine w_for ?_) | (with_reducible refine w_itup ?_) | (with_reducible refine w_ilist ?_) | (with_reducible refine w_irng ?_) | (with_reducible refine w_meth ?_) | (with_reducible refine w_make ?_) | (with_reducible refine w_makeK ?_) | (with_reducible refine w_methK ?_) | ((with_reducible refine' mth ?mh ?ml ?_); (case mh => assumption); (case ml => rfl)) | (with_reducible refine w_drop ?_))
local macro_rules | `(tactic| walk_at "go") => `(tactic| ((repeat (walk_at "1")); try dsimp only))
local macro_rules | `(tactic| walk_at "1") => `(tactic| first
  | (with_reducible refine w_notV ?_) | (with_reducible refine w_callK ?_) | (with_reducible refine w_lc ?_) | (with_reducible refine w_chain ?_) | (with_reducible refine w_neg ?_) | ((with_reducible refine' w_shr ?mo ?_); (case mo => first | assumption | omega)))
local macro_rules | `(tactic| walk_at "pick") => `(tactic| first | (refine ite2 (fun h => absurd h (by decide)) fun _ => ?_) | (refine ite2 (fun _ => ?_) fun h => absurd (by decide) h))
theorem KindAt.ext {KC k : Addr} {H H' : Hp} {r w d : Str} (h : KindAt KC H k r w d) (c : ExtN H H') : KindAt KC H' k r w d := by
  obtain ⟨dy, st, h1, h2⟩ := h
  exact ⟨dy, st, c _ _ h1 nofun, c _ _ h2 nofun⟩
theorem BitAt.ext {KC a : Addr} {CL : List Addr} {H H' : Hp} {n : Nat} {r w d : Str} {s : Int} (h : BitAt KC CL H a n r w d s) (c : ExtN H H') : BitAt KC CL H' a n r w d s := by
  obtain ⟨C, dx, fs, h1, h2, bf, m⟩ := h
  refine ⟨C, dx, fs, h1, c _ _ h2 nofun, ?_, m⟩
  rcases bf with h | ⟨e, k, ef, hk⟩
  · exact .inl h
  · exact .inr ⟨e, k, ef, hk.ext c⟩
theorem BitAt.ins {KC a : Addr} {CL : List Addr} {H : Hp} {n : Nat} {r w d : Str} {s : Int} (h : BitAt KC CL H a n r w d s) : ∃ C dx fs, CL[n]? = some C ∧ H a = some (.ins C dx fs) ∧ fs.lookup ("_state" : Str) = some (.int s) ∧ (∀ x : Str, x ≠ "_state" → x ≠ "kind" → fs.lookup x = none) := by
  obtain ⟨C, dx, fs, h1, h2, bf, m⟩ := h
  refine ⟨C, dx, fs, h1, h2, ?_⟩
  rcases bf with ⟨_, rfl, _⟩ | ⟨_, k, rfl, _⟩
  · refine ⟨rfl, fun x hx _ => ?_⟩
    rw [List.lookup, beq_eq_false_iff_ne.mpr hx]
    rfl
  · refine ⟨rfl, fun x hx hk => ?_⟩
    rw [List.lookup, beq_eq_false_iff_ne.mpr hx]
    show List.lookup x [(("kind" : Str), V.ref k)] = none
    rw [List.lookup, beq_eq_false_iff_ne.mpr hk]
    rfl
theorem one_dig : ∀ s : Int, St4 s → (PyData.int (Builtin.bitAnd s 1)).showable = true ∧ (PyData.int (Builtin.bitAnd s 1)).hasDict = false ∧ (PyData.int (Builtin.bitAnd s 1)).depth ≤ 40 ∧ (PyData.int (Builtin.bitAnd s 1)).shown.length ≤ sizeLine := by
  rintro s (rfl | rfl | rfl | rfl) <;> decide +kernel
theorem one_bool : ∀ b : Bool, (PyData.bool b).showable = true ∧ (PyData.bool b).hasDict = false ∧ (PyData.bool b).depth ≤ 40 ∧ (PyData.bool b).shown.length ≤ sizeLine := by decide +kernel
theorem PenC.at_p {n : Nat} {p l : Addr} {cells : List Int} {H : Hp} (h : PenC n p l cells H) : ∃ xs, H p = some (.lst xs) ∧ xs.length = 3 := by
  obtain ⟨_, _, a, r, _, z⟩ := h
  exact ⟨_, z, rfl⟩
theorem iteN {c : Bool} {A B : Prop} (h : c = false) (q : B) : if c = true then A else B := by rw [h]; exact q
theorem KindAt.kpL {KC k p : Addr} {xs : List V} {H H' : Hp} {r w d : Str} (h : KindAt KC H k r w d) (hq : H p = some (.lst xs)) (e : Kp p H H') : KindAt KC H' k r w d := by
  obtain ⟨dy, st, h1, h2⟩ := h
  refine ⟨dy, st, e _ _ h1 fun z => ?_, e _ _ h2 fun z => ?_⟩
  · rw [z, hq] at h1
    cases h1
  · rw [z, hq] at h2
    cases h2
theorem BitAt.kpL {KC a p : Addr} {CL : List Addr} {xs : List V} {H H' : Hp} {n : Nat} {r w d : Str} {s : Int} (h : BitAt KC CL H a n r w d s) (hq : H p = some (.lst xs)) (e : Kp p H H') : BitAt KC CL H' a n r w d s := by
  obtain ⟨C, dx, fs, h1, h2, bf, mm⟩ := h
  refine ⟨C, dx, fs, h1, e _ _ h2 fun z => ?_, ?_, mm⟩
  · rw [z, hq] at h2
    cases h2
  · rcases bf with h | ⟨ee, k, ef, hk⟩
    · exact .inl h
    · exact .inr ⟨ee, k, ef, hk.kpL hq e⟩
theorem BitAt.kp {KC a p l : Addr} {CL : List Addr} {m : Nat} {cells : List Int} {H H' : Hp} {n : Nat} {r w d : Str} {s : Int} (h : BitAt KC CL H a n r w d s) (pen : PenC m p l cells H) (e : Kp p H H') : BitAt KC CL H' a n r w d s := by
  obtain ⟨xs, hq, _⟩ := pen.at_p
  exact h.kpL hq e
/-- all but the pen and one bit -/
def Kpa (p a : Addr) (H H' : Hp) : Prop := ∀ b o, H b = some o → b ≠ p → b ≠ a → H' b = some o
def spDone (KC : Addr) (CL : List Addr) : Sp := fun vs H Q _ => ∃ (p l : Addr) (cells : List Int) (m : Nat) (a t : Addr) (n : Nat) (r w d : Str) (s : Int), vs = [.ref p, .ref a, .ref t, .int s] ∧ PenC m p l cells H ∧ m ≤ 50000 ∧ BitAt KC CL H a n r w d s ∧ H t = some (.tup [.str r, .str w, .str d]) ∧
  ∀ (s' : Int) H', BitAt KC CL H' a n r w d s' → PenC (m + 1) p l cells H' → Kpa p a H H' → Q (.int s') H'
theorem rd_bit : ∀ s : Int, St4 s → Builtin.bitAnd s 1 = s % 2 := by
  rintro s (rfl | rfl | rfl | rfl) <;> decide +kernel
theorem dv_one {d : Str} {s : Int} (hd : d ∈ DV) (hs : St4 s) : (deB d s = true ∧ dvF d s = [.int (deF d s)]) ∨ (deB d s = false ∧ dvF d s = [] ∧ deF d s = s) := by
  cases h : deB d s with
  | false =>
    refine .inr ⟨rfl, ?_, ?_⟩
    · unfold dvF
      rw [show inV (.int (Builtin.bitAnd s 1)) (invL d) = false from h]
      rfl
    · unfold deF
      rw [h]
      rfl
  | true =>
    refine .inl ⟨rfl, ?_⟩
    unfold dvF deF
    rw [h, show inV (.int (Builtin.bitAnd s 1)) (invL d) = true from h]
    rfl
section
variable {P : Program} {w : World} {K : PySem.W.Frag} {mg : Str → Option Value} {base : Heap} {C c0 : Addr} {CL : List Addr}
theorem ok_done (D : DefAt K mg "_law_done" s__law_done ["_law_pen_here", "_law_spot", "_law_words_here", "_law_state"]) (B : B1 mg) (c_law_draw : Cal P w K mg base 1 "_law_draw" spDraw) (c_law_read : Cal P w K mg base 1 "_law_read" spLRead) (c_law_write : Cal P w K mg base 1 "_law_write" spLWrite) (c_law_deeds : Cal P w K mg base 1 "_law_deeds" spDeeds)
    (DRd : DMeth P w K mg base (L2.CX P w) 5 CL "read" ["self"] (spRd C CL)) (DDd : DMeth P w K mg base (L2.CX P w) 5 CL "deed" ["self"] (spDd C CL)) (DWk : DMethK P w K mg base (L2.CX P w) 5 CL "write" "bit" (spWr C c0 CL)) :
    Cal P w K mg base 6 "_law_done" (spDone C CL) := by
  refine D.cal sc__law_done (fun vs H Q E h => ?_) (fun f cdv A outer s0 H vs Q E rm gd h => ?_)
  · obtain ⟨p, l, cells, m, a, t, n, r, w, d, s, rfl, _⟩ := h
    rfl
  · obtain ⟨p, l, cells, m, a, t, n, r, wr, d, s, rfl, pen, hm, b, ht, q⟩ := h
    have hs4 : St4 s := by
      obtain ⟨_, _, _, _, _, _, dm, _⟩ := b
      exact dm.st
    have mem : r ∈ RD ∧ wr ∈ WR ∧ d ∈ DV := by
      obtain ⟨_, _, _, _, _, _, _, mm⟩ := b
      exact mm
    have dom : Dom wr s := by
      obtain ⟨_, _, _, _, _, _, dm, _⟩ := b
      exact dm
    have tp : t ≠ p := fun z => by
      obtain ⟨xs, hp, _⟩ := pen.at_p
      rw [z, hp] at ht
      cases ht
    refine ⟨_, (pss_cons (ps_set (i := 4) sc__law_done.nd rfl (Or.inl rfl) (pc c_law_draw rm (by decide) gd rfl (pa_cons (pv 0) (pa_cons pe_int pa_nil))))
    (pss_cons (ps_if (pt_cmpR op_lt (pv 4) pe_int (nomark _))
      (pss_cons (ps_set (i := 5) sc__law_done.nd rfl (Or.inl rfl) (pc c_law_read rm (by decide) gd rfl (pa_cons (pe_ix ix_tup (pv 2) pe_int (fun _ _ => rfl)) (pa_cons (pv 3) pa_nil))))
      (pss_one (ps_ret (pe_ifExp (pt_cmpR op_eq (pe_callB (call_repr rm gd) (by rfl) B.g_repr (by decide +kernel) (pa_cons (pe_dmeth0 (E := fun _ _ _ => False) (pv 1) DRd (rm.mono (by decide)) (Nat.le_refl _) gd pass_no) pa_nil)) (pe_callB (call_repr rm gd) (by rfl) B.g_repr (by decide +kernel) (pa_cons (pe_op op_mod (pv 3) pe_int) pa_nil)) (nomark _)) (pv 5) pe_non))))
      pss_nil)
    (pss_cons (ps_if (pt_cmpR op_lt (pv 4) pe_int (nomark _))
      (pss_cons (ps_set (i := 5) sc__law_done.nd rfl (Or.inl rfl) (pc c_law_write rm (by decide) gd rfl (pa_cons (pe_ix ix_tup (pv 2) pe_int (fun _ _ => rfl)) (pa_cons (pv 3) (pa_cons (pe_op op_sub (pv 4) pe_int) pa_nil)))))
      (pss_one (ps_ret (pe_ifExp (pt_cmpR op_isN (pe_dmethK (E := fun _ _ _ => False) (pv 1) DWk (rm.mono (by decide)) (Nat.le_refl _) gd pass_no (pk_cons (pe_op op_sub (pv 4) pe_int) pk_nil)) pe_non (nomark _)) (pv 5) pe_non))))
      pss_nil)
    (pss_cons (ps_set (i := 6) sc__law_done.nd rfl (Or.inl rfl) (pc c_law_deeds rm (by decide) gd rfl (pa_cons (pe_ix ix_tup (pv 2) pe_int (fun _ _ => rfl)) (pa_cons (pv 3) pa_nil))))
    (pss_cons (ps_set (i := 5) sc__law_done.nd rfl (Or.inl rfl) (pe_ix ix_tup (pe_op op_catE (pv 6) (pe_tup (pa_cons (pv 3) pa_nil))) pe_int (fun _ _ => rfl)))
    (pss_one (ps_ret (pe_ifExp (pt_cmpR op_eq (pe_callB (call_repr rm gd) (by rfl) B.g_repr (by decide +kernel) (pa_cons (pe_dmeth0 (E := fun _ _ _ => False) (pv 1) DDd (rm.mono (by decide)) (Nat.le_refl _) gd pass_no) pa_nil)) (pe_callB (call_repr rm gd) (by rfl) B.g_repr (by decide +kernel) (pa_cons (pe_cmpR (op_neD rm.units) (pv 6) (pe_tup pa_nil) (nomark _)) pa_nil)) (nomark _)) (pv 5) pe_non)))))))), ?_⟩
    walk_at "go"
    refine ⟨p, l, cells, m, 6, rfl, pen, by omega, by decide, by decide, fun pk H1 p0 p1 pen1 k1 => ?_⟩
    have b1 := b.kp pen k1
    have ht1 := k1 _ _ ht tp
    obtain ⟨C', dx, fs, hC, ha, hl, hx⟩ := b1.ins
    have fin : ∀ (s' : Int) G, BitAt C CL G a n r wr d s' → Ch a H1 G → Q (.int s') G := fun s' G bb c => by
      refine q s' G bb ?_ fun e o he np na => c e o (k1 e o he np) na
      obtain ⟨q1, q2, x, y, z, q3⟩ := pen1
      refine ⟨q1, c _ _ q2 fun e => ?_, x, y, z, c _ _ q3 fun e => ?_⟩
      · rw [e, ha] at q2
        cases q2
      · rw [e, ha] at q3
        cases q3
    have h6 : pk = 0 ∨ pk = 1 ∨ pk = 2 ∨ pk = 3 ∨ pk = 4 ∨ pk = 5 := by omega
    obtain ⟨z1, z2, z3, z4⟩ := one_dig s hs4
    rcases h6 with rfl | rfl | rfl | rfl | rfl | rfl
    · walk_at "go"
      walk_at "pick"
      walk_at "go"
      refine ⟨r, s, rfl, mem.1, hs4, ?_⟩
      walk_at "go"
      refine w_dyn (w_var rfl ⟨a, n, C', dx, fs, rfl, hC, ha, hx "read" (by decide) (by decide), ?_⟩)
      walk_at "go"
      refine ⟨a, r, wr, d, s, rfl, b1, fun H2 b2 c2 => ?_⟩
      walk_at "go"
      refine ⟨.int (Builtin.bitAnd s 1), .int (Builtin.bitAnd s 1), rfl, .int _, z1, z2, z3, z4, ?_⟩
      walk_at "go"
      rw [← rd_bit s hs4]
      refine ⟨.int (Builtin.bitAnd s 1), .int (Builtin.bitAnd s 1), rfl, .int _, z1, z2, z3, z4, ?_⟩
      walk_at "go"
      refine ite2 (fun _ => ?_) fun h => absurd (decide_eq_true rfl) h
      walk_at "go"
      exact fin _ H2 b2 c2
    · walk_at "go"
      walk_at "pick"
      walk_at "go"
      refine ⟨r, s, rfl, mem.1, hs4, ?_⟩
      walk_at "go"
      refine w_dyn (w_var rfl ⟨a, n, C', dx, fs, rfl, hC, ha, hx "read" (by decide) (by decide), ?_⟩)
      walk_at "go"
      refine ⟨a, r, wr, d, s, rfl, b1, fun H2 b2 c2 => ?_⟩
      walk_at "go"
      refine ⟨.int (Builtin.bitAnd s 1), .int (Builtin.bitAnd s 1), rfl, .int _, z1, z2, z3, z4, ?_⟩
      walk_at "go"
      rw [← rd_bit s hs4]
      refine ⟨.int (Builtin.bitAnd s 1), .int (Builtin.bitAnd s 1), rfl, .int _, z1, z2, z3, z4, ?_⟩
      walk_at "go"
      refine ite2 (fun _ => ?_) fun h => absurd (decide_eq_true rfl) h
      walk_at "go"
      exact fin _ H2 b2 c2
    · walk_at "go"
      walk_at "pick"
      walk_at "go"
      walk_at "pick"
      walk_at "go"
      refine ⟨wr, s, _, rfl, mem.2.1, dom, .inl rfl, fun H2 y2 => ?_⟩
      walk_at "go"
      have b2 := b1.ext (ExtN.of y2)
      refine w_dynK (w_var rfl ⟨a, n, C', dx, fs, rfl, hC, y2 _ _ ha, hx "write" (by decide) (by decide), ?_⟩)
      walk_at "go"
      refine ⟨_, rfl, a, r, wr, d, s, _, rfl, b2, _, oI _, (fun h => by cases h), fun i ei hi H3 b3 c3 => ?_⟩
      cases ei
      walk_at "go"
      refine ⟨rfl, _, rfl, ?_⟩
      refine ite2 (fun _ => ?_) fun h => absurd (decide_eq_true rfl) h
      walk_at "go"
      exact fin _ H3 b3 ((Ch.same y2).trans c3)
    · walk_at "go"
      walk_at "pick"
      walk_at "go"
      walk_at "pick"
      walk_at "go"
      refine ⟨wr, s, _, rfl, mem.2.1, dom, .inr rfl, fun H2 y2 => ?_⟩
      walk_at "go"
      have b2 := b1.ext (ExtN.of y2)
      refine w_dynK (w_var rfl ⟨a, n, C', dx, fs, rfl, hC, y2 _ _ ha, hx "write" (by decide) (by decide), ?_⟩)
      walk_at "go"
      refine ⟨_, rfl, a, r, wr, d, s, _, rfl, b2, _, oI _, (fun h => by cases h), fun i ei hi H3 b3 c3 => ?_⟩
      cases ei
      walk_at "go"
      refine ⟨rfl, _, rfl, ?_⟩
      refine ite2 (fun _ => ?_) fun h => absurd (decide_eq_true rfl) h
      walk_at "go"
      exact fin _ H3 b3 ((Ch.same y2).trans c3)
    · walk_at "go"
      walk_at "pick"
      walk_at "go"
      walk_at "pick"
      walk_at "go"
      refine ⟨d, s, rfl, mem.2.2, hs4, fun te H2 hte y2 => ?_⟩
      walk_at "go"
      refine new (show 1 ≤ sizeLine by decide) fun t2 H3 n3 h3 y3 => ?_
      have b3 := (b1.ext (ExtN.of y2)).ext (ExtN.of y3)
      have ha3 := y3 _ _ (y2 _ _ ha)
      rcases dv_one mem.2.2 hs4 with ⟨e1, e2⟩ | ⟨e1, e2, e3⟩
      · rw [e2] at hte
        refine .inr ⟨te, t2, _, _, rfl, rfl, SqT.of (y3 _ _ hte), SqT.of h3, (fun h => by cases h), (show 2 ≤ sizeLine by decide), (fun h => by cases h), fun _ p4 n4 => ?_⟩
        have y4 : Same H3 (upd H3 p4 (.tup ([.int (deF d s)] ++ [.int s]))) := fun q o e => by
          rw [upd_ne (ne_of_none e n4)]
          exact e
        have h4 : upd H3 p4 (.tup ([.int (deF d s)] ++ [.int s])) p4 = some (.tup [.int (deF d s), .int s]) := upd_same
        generalize upd H3 p4 (.tup ([.int (deF d s)] ++ [.int s])) = H4 at y4 h4
        walk_at "go"
        refine w_dyn (w_var rfl ⟨a, n, C', dx, fs, rfl, hC, y4 _ _ ha3, hx "deed" (by decide) (by decide), ?_⟩)
        walk_at "go"
        refine ⟨a, r, wr, d, s, rfl, b3.ext (ExtN.of y4), fun H5 b5 c5 => ?_⟩
        walk_at "go"
        obtain ⟨w1, w2, w3, w4⟩ := one_bool (deB d s)
        refine ⟨.bl (deB d s), .bool (deB d s), rfl, .bl _, w1, w2, w3, w4, ?_⟩
        walk_at "go"
        refine new (show 0 ≤ sizeLine by decide) fun t6 H6 n6 h6 y6 => ?_
        have hte6 : H6 te = some (.tup [.int (deF d s)]) := y6 _ _ (c5 _ _ (y4 _ _ (y3 _ _ hte)) fun e => by
          rw [e, y2 _ _ ha] at hte
          cases hte)
        have sh : SeqAt.shaped (.tuple [.int (deF d s)]) = true := by simp [SeqAt.shaped, PyData.canLay0, PyData.canLayAll0, PyData.depth, PyData.depthAll]
        have ne : PyData.eqv (.tuple [.int (deF d s)]) (.tuple []) = false := by simp [PyData.eqv, PyData.eqvAll]
        refine ⟨.tuple [.int (deF d s)], .tuple [], .tup (SqT.of hte6) (.cons (.int _) .nil), .tup (SqT.of h6) .nil, sh, by decide +kernel, ?_⟩
        rw [ne]
        walk_at "go"
        rw [e1]
        obtain ⟨w1, w2, w3, w4⟩ := one_bool true
        refine ⟨.bl (!false), .bool true, rfl, .bl _, w1, w2, w3, w4, ?_⟩
        walk_at "go"
        refine ite2 (fun _ => ?_) fun h => absurd (decide_eq_true rfl) h
        walk_at "go"
        exact fin _ H6 (b5.ext (ExtN.of y6)) ((Ch.same (y2.trans (y3.trans y4))).trans (c5.trans (Ch.same y6)))
      · rw [e2] at hte
        refine .inl ⟨te, t2, _, rfl, rfl, SqT.of (y3 _ _ hte), SqT.of h3, ?_⟩
        walk_at "go"
        refine w_dyn (w_var rfl ⟨a, n, C', dx, fs, rfl, hC, ha3, hx "deed" (by decide) (by decide), ?_⟩)
        walk_at "go"
        refine ⟨a, r, wr, d, s, rfl, b3, fun H5 b5 c5 => ?_⟩
        walk_at "go"
        obtain ⟨w1, w2, w3, w4⟩ := one_bool (deB d s)
        refine ⟨.bl (deB d s), .bool (deB d s), rfl, .bl _, w1, w2, w3, w4, ?_⟩
        walk_at "go"
        refine new (show 0 ≤ sizeLine by decide) fun t6 H6 n6 h6 y6 => ?_
        have hte6 : H6 te = some (.tup []) := y6 _ _ (c5 _ _ (y3 _ _ hte) fun e => by
          rw [e, y2 _ _ ha] at hte
          cases hte)
        refine ⟨.tuple [], .tuple [], .tup (SqT.of hte6) .nil, .tup (SqT.of h6) .nil, by decide +kernel, by decide +kernel, ?_⟩
        rw [show PyData.eqv (.tuple []) (.tuple []) = true by decide +kernel]
        walk_at "go"
        rw [e1]
        obtain ⟨w1, w2, w3, w4⟩ := one_bool false
        refine ⟨.bl (!true), .bool false, rfl, .bl _, w1, w2, w3, w4, ?_⟩
        walk_at "go"
        refine ite2 (fun _ => ?_) fun h => absurd (decide_eq_true rfl) h
        walk_at "go"
        have b6 := b5.ext (ExtN.of y6)
        rw [e3] at b6
        exact fin _ H6 b6 ((Ch.same (y2.trans y3)).trans (c5.trans (Ch.same y6)))
    · walk_at "go"
      walk_at "pick"
      walk_at "go"
      walk_at "pick"
      walk_at "go"
      refine ⟨d, s, rfl, mem.2.2, hs4, fun te H2 hte y2 => ?_⟩
      walk_at "go"
      refine new (show 1 ≤ sizeLine by decide) fun t2 H3 n3 h3 y3 => ?_
      have b3 := (b1.ext (ExtN.of y2)).ext (ExtN.of y3)
      have ha3 := y3 _ _ (y2 _ _ ha)
      rcases dv_one mem.2.2 hs4 with ⟨e1, e2⟩ | ⟨e1, e2, e3⟩
      · rw [e2] at hte
        refine .inr ⟨te, t2, _, _, rfl, rfl, SqT.of (y3 _ _ hte), SqT.of h3, (fun h => by cases h), (show 2 ≤ sizeLine by decide), (fun h => by cases h), fun _ p4 n4 => ?_⟩
        have y4 : Same H3 (upd H3 p4 (.tup ([.int (deF d s)] ++ [.int s]))) := fun q o e => by
          rw [upd_ne (ne_of_none e n4)]
          exact e
        have h4 : upd H3 p4 (.tup ([.int (deF d s)] ++ [.int s])) p4 = some (.tup [.int (deF d s), .int s]) := upd_same
        generalize upd H3 p4 (.tup ([.int (deF d s)] ++ [.int s])) = H4 at y4 h4
        walk_at "go"
        refine w_dyn (w_var rfl ⟨a, n, C', dx, fs, rfl, hC, y4 _ _ ha3, hx "deed" (by decide) (by decide), ?_⟩)
        walk_at "go"
        refine ⟨a, r, wr, d, s, rfl, b3.ext (ExtN.of y4), fun H5 b5 c5 => ?_⟩
        walk_at "go"
        obtain ⟨w1, w2, w3, w4⟩ := one_bool (deB d s)
        refine ⟨.bl (deB d s), .bool (deB d s), rfl, .bl _, w1, w2, w3, w4, ?_⟩
        walk_at "go"
        refine new (show 0 ≤ sizeLine by decide) fun t6 H6 n6 h6 y6 => ?_
        have hte6 : H6 te = some (.tup [.int (deF d s)]) := y6 _ _ (c5 _ _ (y4 _ _ (y3 _ _ hte)) fun e => by
          rw [e, y2 _ _ ha] at hte
          cases hte)
        have sh : SeqAt.shaped (.tuple [.int (deF d s)]) = true := by simp [SeqAt.shaped, PyData.canLay0, PyData.canLayAll0, PyData.depth, PyData.depthAll]
        have ne : PyData.eqv (.tuple [.int (deF d s)]) (.tuple []) = false := by simp [PyData.eqv, PyData.eqvAll]
        refine ⟨.tuple [.int (deF d s)], .tuple [], .tup (SqT.of hte6) (.cons (.int _) .nil), .tup (SqT.of h6) .nil, sh, by decide +kernel, ?_⟩
        rw [ne]
        walk_at "go"
        rw [e1]
        obtain ⟨w1, w2, w3, w4⟩ := one_bool true
        refine ⟨.bl (!false), .bool true, rfl, .bl _, w1, w2, w3, w4, ?_⟩
        walk_at "go"
        refine ite2 (fun _ => ?_) fun h => absurd (decide_eq_true rfl) h
        walk_at "go"
        exact fin _ H6 (b5.ext (ExtN.of y6)) ((Ch.same (y2.trans (y3.trans y4))).trans (c5.trans (Ch.same y6)))
      · rw [e2] at hte
        refine .inl ⟨te, t2, _, rfl, rfl, SqT.of (y3 _ _ hte), SqT.of h3, ?_⟩
        walk_at "go"
        refine w_dyn (w_var rfl ⟨a, n, C', dx, fs, rfl, hC, ha3, hx "deed" (by decide) (by decide), ?_⟩)
        walk_at "go"
        refine ⟨a, r, wr, d, s, rfl, b3, fun H5 b5 c5 => ?_⟩
        walk_at "go"
        obtain ⟨w1, w2, w3, w4⟩ := one_bool (deB d s)
        refine ⟨.bl (deB d s), .bool (deB d s), rfl, .bl _, w1, w2, w3, w4, ?_⟩
        walk_at "go"
        refine new (show 0 ≤ sizeLine by decide) fun t6 H6 n6 h6 y6 => ?_
        have hte6 : H6 te = some (.tup []) := y6 _ _ (c5 _ _ (y3 _ _ hte) fun e => by
          rw [e, y2 _ _ ha] at hte
          cases hte)
        refine ⟨.tuple [], .tuple [], .tup (SqT.of hte6) .nil, .tup (SqT.of h6) .nil, by decide +kernel, by decide +kernel, ?_⟩
        rw [show PyData.eqv (.tuple []) (.tuple []) = true by decide +kernel]
        walk_at "go"
        rw [e1]
        obtain ⟨w1, w2, w3, w4⟩ := one_bool false
        refine ⟨.bl (!true), .bool false, rfl, .bl _, w1, w2, w3, w4, ?_⟩
        walk_at "go"
        refine ite2 (fun _ => ?_) fun h => absurd (decide_eq_true rfl) h
        walk_at "go"
        have b6 := b5.ext (ExtN.of y6)
        rw [e3] at b6
        exact fin _ H6 b6 ((Ch.same (y2.trans y3)).trans (c5.trans (Ch.same y6)))
end
end Law

set_option Elab.async false
set_option linter.all false
set_option maxRecDepth 100000
set_option maxHeartbeats 4000000
namespace Law
open PySem PySem.Spec PySem.Calls PyProof.Rows L2 KG LamX
local macro_rules | `(tactic| walk_at "1") => `(tactic| first
  | (with_reducible refine w_var rfl ?_) | (with_reducible refine w_c ?_) | (with_reducible refine w_seq ?_) | (with_reducible refine w_asg ?_) | (with_reducible refine w_gname ?_) | (with_reducible refine w_op ?_) | (with_reducible refine w_un ?_)
  | (with_reducible refine w_add ?_) | (with_reducible refine w_sub ?_) | ((with_reducible refine' w_mod ?mo ?_); (case mo => first | assumption | decide | omega)) | (with_reducible refine w_and ?_) | (with_reducible refine w_or ?_) | (with_reducible refine w_xor ?_)
  | (with_reducible refine w_gt ?_) | (with_reducible refine w_lt ?_) | (with_reducible refine w_ge ?_) | (with_reducible refine w_le ?_) | ((with_reducible refine' w_eq ?sc ?_); (case sc => rfl)) | ((with_reducible refine' w_ne ?sc ?_); (case sc => rfl))
  | (with_reducible refine w_ret ?_) | (with_reducible refine w_next ?_) | (with_reducible refine w_ifs ?_) | (with_reducible refine w_ifx ?_) | (with_reducible refine w_test ?_) | (with_reducible refine w_tB ?_) | (with_reducible refine w_bl ?_)
  | ((with_reducible refine' w_ixL ?ixh ?ixa ?_); (case ixh => first | exact SqL.of (by assumption)); (case ixa => first | rfl | skip)) | ((with_reducible refine' w_ixT ?ixh ?ixa ?_); (case ixh => first | exact SqT.of (by assumption)); (case ixa => first | rfl | skip))
  | ((with_reducible refine' w_fld ?_)) | ((with_reducible refine' fld ?fh ?fc ?fn ?fl ?_); (case fh => assumption); (case fc => assumption); (case fn => assumption); (case fl => rfl)) | (with_reducible refine w_sfld ?_)
  | (with_reducible refine Or.inl ⟨_, rfl, ?_⟩) | (with_reducible refine w_gsub ?_) | (with_reducible refine w_andV ?_) | (with_reducible refine w_orV ?_)
  | (with_reducible refine w_nil ?_) | (with_reducible refine w_cons ?_) | (with_reducible refine w_tup ?_) | (with_reducible refine w_lst ?_) | (with_reducible refine w_and2 ?_) | (with_reducible refine w_or2 ?_) | (with_reducible refine w_not ?_) | (with_reducible refine w_cb ?_) | (with_reducible refine w_call ?_) | (with_reducible refine w_par ?_) | (with_reducible refine w_pnil ?_) | (with_reducible refine w_pcons ?_) | (with_reducible refine w_dput ?_) | (with_reducible refine w_dget ?_) | (with_reducible refine w_for ?_) | (with_reducible refine w_itup ?_) | (with_reducible refine w_ilist ?_) | (with_reducible refine w_irng ?_) | (with_reducible refine w_meth ?_) | (with_reducible refine w_make ?_) | (with_reducible refine w_makeK ?_) | (with_reducible refine w_methK ?_) | ((with_reducible refine' mth ?mh ?ml ?_); (case mh => assumption); (case ml => rfl)) | (with_reducible refine w_drop ?_))
local macro_rules | `(tactic| walk_at "go") => `(tactic| ((repeat (walk_at "1")); try dsimp only))
local macro_rules | `(tactic| walk_at "1") => `(tactic| first
  | (with_reducible refine w_notV ?_) | (with_reducible refine w_callK ?_) | (with_reducible refine w_lc ?_) | (with_reducible refine w_chain ?_) | (with_reducible refine w_neg ?_) | ((with_reducible refine' w_shr ?mo ?_); (case mo => first | assumption | omega)))
local macro_rules | `(tactic| walk_at "pick") => `(tactic| first | (refine ite2 (fun h => absurd h (by decide)) fun _ => ?_) | (refine ite2 (fun _ => ?_) fun h => absurd (by decide) h))
/-- the bits of a run -/
structure BS (KC : Addr) (CL : List Addr) (H : Hp) (bs : List Addr) (ns : List Nat) (ss : List Int) : Prop where
  l1 : bs.length = ns.length
  l2 : ss.length = ns.length
  lt : ∀ n ∈ ns, n < 16
  nd : ∀ (i j : Nat) (a : Addr), bs[i]? = some a → bs[j]? = some a → i = j
  at_ : ∀ (i : Nat) (a : Addr) (n : Nat) (s : Int), bs[i]? = some a → ns[i]? = some n → ss[i]? = some s → BitAt KC CL H a n (w1 n) (w2 n) (w3 n) s
def nV (ns : List Nat) : List V := ns.map fun n => V.int ((n : Nat) : Int)
/-- a comprehension over zip of two lists that stand still -/
theorem lc_zip {K : PySem.W.Frag} {a b : Addr} {xs ys : List V} {g : TG} {tt : TT} {te : TE} {vs : List Nat} {σ : L2.St} {H1 : Hp} {D : Addr} {Qd : Hp → Prop} (hl : xs.length = ys.length) (Pv : Nat → Hp → Prop) (h0 : Pv 0 (upd H1 D (.lst []))) (hq : ∀ i H, i ≤ xs.length → Pv i H → SqL K H a xs ∧ SqL K H b ys)
    (hs : ∀ (i : Nat) (x y : V) (T : Addr) (H H' : Hp), xs[i]? = some x → ys[i]? = some y → Pv i H → H T = none → H' T = some (.tup [x, y]) → Same H H' → g (.ref T) (wipe σ vs) H' fun σ2 H2 => wipe σ2 vs = wipe σ vs ∧ tt σ2 H2 fun b H3 =>
      if b = true then te σ2 H3 fun y H4 => ∃ acc, H4 D = some (.lst acc) ∧ acc.length < sizeLine ∧ Pv (i + 1) (upd H4 D (.lst (acc ++ [y]))) else Pv (i + 1) H3) (hd : ∀ H, Pv xs.length H → Qd H) :
    ∃ W : Nat → Nat → Hp → Prop, (∃ m, W 0 m (upd H1 D (.lst []))) ∧ ∀ i m H, W i m H →
      ((Itz K a b).stop i H ∧ Qd H) ∨ ((Itz K a b).go i H ∧ ∃ Nx : Hp → Prop, (∀ H', Nx H' → ∃ m', m' < m ∧ W (i + 1) m' H') ∧ ∀ x H', (Itz K a b).yld i H x H' → g x (wipe σ vs) H' fun σ2 H2 => wipe σ2 vs = wipe σ vs ∧ tt σ2 H2 fun b H3 =>
        if b = true then te σ2 H3 fun y H4 => ∃ acc, H4 D = some (.lst acc) ∧ acc.length < sizeLine ∧ Nx (upd H4 D (.lst (acc ++ [y]))) else Nx H3) := by
  refine ⟨fun i m H => m = xs.length - i ∧ i ≤ xs.length ∧ Pv i H, ⟨xs.length, rfl, Nat.zero_le _, h0⟩, ?_⟩
  rintro i m H ⟨rfl, hi, p⟩
  obtain ⟨qx, qy⟩ := hq i H hi p
  rcases Nat.lt_or_ge i xs.length with c | c
  · refine .inr ⟨⟨xs, ys, _, _, qx, qy, List.getElem?_eq_getElem c, List.getElem?_eq_getElem (hl ▸ c)⟩, Pv (i + 1), fun H' p' => ⟨xs.length - (i + 1), by omega, rfl, c, p'⟩, fun v H' z => ?_⟩
    obtain ⟨T, x', y', rfl, hT, rfl, f1, f2⟩ := z
    exact hs i x' y' T H _ (f1 xs qx) (f2 ys qy) p hT upd_same fun e o h => by
      rw [upd_ne (ne_of_none h hT)]
      exact h
  · have e : i = xs.length := by omega
    subst e
    exact .inl ⟨⟨xs, ys, qx, qy, .inl (Nat.le_refl _)⟩, hd H p⟩
/-- a loop over zip of two lists that stand still -/
theorem for_zip {K : PySem.W.Frag} {a b : Addr} {xs ys : List V} {g : TG} {tb : TS} {D : Ends} {σ : L2.St} {H : Hp} (hl : xs.length = ys.length) (Pv : Nat → L2.St → Hp → Prop) (h0 : Pv 0 σ H) (hq : ∀ i σ H, Pv i σ H → SqL K H a xs ∧ SqL K H b ys)
    (hs : ∀ (i : Nat) (x y : V) (T : Addr) (σ : L2.St) (H H' : Hp), xs[i]? = some x → ys[i]? = some y → Pv i σ H → H T = none → H' T = some (.tup [x, y]) → Same H H' → g (.ref T) σ H' fun σ2 H2 => tb { D with nx := Pv (i + 1), ct := Pv (i + 1), bk := D.nx } σ2 H2) (hd : ∀ σ H, Pv xs.length σ H → D.nx σ H) : Loop (Itz K a b) g tb D σ H :=
  RZ.for_zipL hl Pv h0 hq (fun i x y T σ H hx hy p hT => hs i x y T σ H _ hx hy p hT upd_same fun e o h => by
    rw [upd_ne (ne_of_none h hT)]
    exact h) hd
theorem w_izip {K : PySem.W.Frag} {ta : TA} {σ : L2.St} {H : Hp} {R : It → Hp → Prop} (q : ta σ H fun vs H1 => ∃ a b xs ys, vs = [.ref a, .ref b] ∧ ((SqL K H1 a xs ∧ SqL K H1 b ys ∧ R (Itz K a b) H1) ∨ (SqT K H1 a xs ∧ SqT K H1 b ys ∧ R (RZ.ItzT K a b) H1))) : RZ.iZipA K ta σ H R := q
/-- a new list beside the pen -/
theorem pen_ne {n : Nat} {p l D : Addr} {cells : List Int} {H : Hp} (pen : PenC n p l cells H) (nD : H D = none) : D ≠ p ∧ D ≠ l := by
  obtain ⟨_, h1, _, _, _, h2⟩ := pen
  exact ⟨(fun z => by rw [z, h2] at nD; cases nD), (fun z => by rw [z, h1] at nD; cases nD)⟩
theorem pen_at {n : Nat} {p l D : Addr} {cells : List Int} {H : Hp} {o : HO} (pen : PenC n p l cells H) (n1 : D ≠ p) (n2 : D ≠ l) : PenC n p l cells (upd H D o) := by
  obtain ⟨q, h1, x, y, z, h2⟩ := pen
  exact ⟨q, (upd_ne n2.symm).trans h1, x, y, z, (upd_ne n1.symm).trans h2⟩
theorem nV_snoc (ns : List Nat) (n : Nat) : nV (ns ++ [n]) = nV ns ++ [V.int ((n : Nat) : Int)] := by
  unfold nV
  rw [List.map_append]
  rfl
theorem nV_at {ns : List Nat} {i n : Nat} (h : ns[i]? = some n) : (nV ns)[i]? = some (.int ((n : Nat) : Int)) := by
  unfold nV
  rw [List.getElem?_map, h]
  rfl
theorem nV_inv {ns : List Nat} {i : Nat} {v : V} (h : (nV ns)[i]? = some v) : ∃ n, ns[i]? = some n ∧ v = .int ((n : Nat) : Int) := by
  unfold nV at h
  rw [List.getElem?_map] at h
  cases e : ns[i]? with
  | none =>
    rw [e] at h
    cases h
  | some n =>
    rw [e] at h
    exact ⟨n, rfl, (Option.some.inj h).symm⟩
theorem nV_len (ns : List Nat) : (nV ns).length = ns.length := List.length_map ..
theorem big_of {n : Nat} (h : n ≤ 1000) : n < sizeLine := Nat.lt_of_le_of_lt h (by decide)
theorem BS.map {KC : Addr} {CL : List Addr} {H H' : Hp} {bs : List Addr} {ns : List Nat} {ss : List Int} (h : BS KC CL H bs ns ss) (f : ∀ {a n r w d s}, BitAt KC CL H a n r w d s → BitAt KC CL H' a n r w d s) : BS KC CL H' bs ns ss :=
  ⟨h.l1, h.l2, h.lt, h.nd, fun i a n s x y z => f (h.at_ i a n s x y z)⟩
theorem BS.some_at {KC : Addr} {CL : List Addr} {H : Hp} {bs : List Addr} {ns : List Nat} {ss : List Int} (h : BS KC CL H bs ns ss) {i : Nat} {a : Addr} (e : bs[i]? = some a) : ∃ n s, ns[i]? = some n ∧ ss[i]? = some s ∧ n < 16 ∧ BitAt KC CL H a n (w1 n) (w2 n) (w3 n) s := by
  have hi := (List.getElem?_eq_some_iff.mp e).1
  have h1 : i < ns.length := h.l1 ▸ hi
  have h2 : i < ss.length := h.l2.symm ▸ h1
  have e1 : ns[i]? = some ns[i] := List.getElem?_eq_getElem h1
  have e2 : ss[i]? = some ss[i] := List.getElem?_eq_getElem h2
  exact ⟨_, _, e1, e2, h.lt _ (List.getElem_mem h1), h.at_ i a _ _ e e1 e2⟩
theorem snoc_at {α : Type} {l : List α} {x y : α} {i : Nat} (e : (l ++ [x])[i]? = some y) : l[i]? = some y ∨ (i = l.length ∧ y = x) := by
  rcases Nat.lt_or_ge i l.length with c | c
  · rw [List.getElem?_append_left c] at e
    exact .inl e
  · rw [List.getElem?_append_right c] at e
    have hz : i - l.length = 0 := by
      have := (List.getElem?_eq_some_iff.mp e).1
      simp at this
      omega
    rw [hz] at e
    exact .inr ⟨by omega, (Option.some.inj e).symm⟩
theorem BS.snoc {KC : Addr} {CL : List Addr} {H H' : Hp} {bs : List Addr} {ns : List Nat} {ss : List Int} {x : Addr} {n : Nat} {s : Int} (h : BS KC CL H bs ns ss) (nx : H x = none) (bx : BitAt KC CL H' x n (w1 n) (w2 n) (w3 n) s) (z : Same H H') (hn : n < 16) : BS KC CL H' (bs ++ [x]) (ns ++ [n]) (ss ++ [s]) := by
  have no : ∀ i : Nat, bs[i]? = some x → False := fun i e => by
    obtain ⟨m, t, _, _, _, b⟩ := h.some_at e
    obtain ⟨_, _, _, _, hb, _⟩ := b
    rw [nx] at hb
    cases hb
  refine ⟨by rw [List.length_append, List.length_append, h.l1]; rfl, by rw [List.length_append, List.length_append, h.l2]; rfl, fun m hm => ?_, fun i j a e1 e2 => ?_, fun i a m t e1 e2 e3 => ?_⟩
  · rcases List.mem_append.mp hm with hm | hm
    · exact h.lt m hm
    · rw [List.mem_singleton.mp hm]
      exact hn
  · rcases snoc_at e1 with f1 | ⟨f1, g1⟩ <;> rcases snoc_at e2 with f2 | ⟨f2, g2⟩
    · exact h.nd i j a f1 f2
    · rw [g2] at f1
      exact (no _ f1).elim
    · rw [g1] at f2
      exact (no _ f2).elim
    · omega
  · have l1 := h.l1
    have l2 := h.l2
    rcases snoc_at e1 with f1 | ⟨f1, g1⟩
    · have hi := (List.getElem?_eq_some_iff.mp f1).1
      rw [List.getElem?_append_left (by omega)] at e2 e3
      exact (h.at_ i a m t f1 e2 e3).ext (ExtN.of z)
    · rcases snoc_at e2 with f2 | ⟨_, g2⟩
      · have := (List.getElem?_eq_some_iff.mp f2).1
        omega
      · rcases snoc_at e3 with f3 | ⟨_, g3⟩
        · have := (List.getElem?_eq_some_iff.mp f3).1
          omega
        · subst g1 g2 g3
          exact bx
theorem take_snoc {α : Type} {l : List α} {i : Nat} {x : α} (h : l[i]? = some x) : l.take (i + 1) = l.take i ++ [x] := by
  rw [List.take_add_one, h]
  rfl
/-- texts of words and of pairs -/
def wdD (n : Nat) : PyData := .tuple [.str (w1 n), .str (w2 n), .str (w3 n)]
theorem wd_show : ∀ n : Nat, n < 16 → (wdD n).showable = true ∧ (wdD n).hasDict = false ∧ (wdD n).depth ≤ 40 ∧ (wdD n).shown.length ≤ sizeLine := by
  have h : ∀ n : Nat, n < 16 → (wdD n).showable = true ∧ (wdD n).hasDict = false ∧ (wdD n).depth ≤ 40 ∧ (wdD n).shown.length ≤ 100 := by decide +kernel
  exact fun n hn => ⟨(h n hn).1, (h n hn).2.1, (h n hn).2.2.1, Nat.le_trans (h n hn).2.2.2 (by decide)⟩
def prD (s : Int) : PyData := .tuple [.int (Builtin.bitAnd s 1), .int s]
theorem pr_show : ∀ s : Int, St4 s → (prD s).showable = true ∧ (prD s).hasDict = false ∧ (prD s).depth ≤ 40 ∧ (prD s).shown.length ≤ sizeLine := by
  rintro s (rfl | rfl | rfl | rfl) <;> decide +kernel
structure Wd (K : PySem.W.Frag) (CL : List Addr) (wa : Nat → Addr) : Prop where
  con : ∀ (n : Nat) (C : Addr), n < 16 → CL[n]? = some C → Con K C "WORDS" (.ref (wa n)) (.ref (wa n))
  rd : ∀ n, n < 16 → ∃ mc, ClX.CRead K (cB CL n) mc ∧ ClX.CVal K (cB CL n) mc "WORDS" (.ref (wa n)) (.ref (wa n))
  tup : ∀ n, n < 16 → KTup K (wa n) [.str (w1 n), .str (w2 n), .str (w3 n)]
theorem w_con {K : PySem.W.Frag} {ta : TE} {f : Str} {σ : L2.St} {H : Hp} {Q : VK} (q : ta σ H fun x H1 => ∃ a C dx fs v u, x = .ref a ∧ H1 a = some (.ins C dx fs) ∧ Cls K C ∧ Con K C f v u ∧ fs.lookup f = none ∧ Q v H1) : tCon K ta f σ H Q := q
theorem iteNe {x : V} {A B : Prop} (b : B) : if (!decide (x = x)) = true then A else B := by
  rw [decide_eq_true rfl]
  exact b
theorem flat_ints : ∀ l : List Int, (l.map V.int).all flatV = true
  | [] => rfl
  | _ :: l => flat_ints l
theorem in_mk {n : Nat} {k : Int} (h : k ∈ mkL n) : (if true = true then !inV (.int k) ((mkL n).map V.int) else inV (.int k) ((mkL n).map V.int)) = false := by
  rw [if_pos rfl]
  have : inV (.int k) ((mkL n).map V.int) = true := by
    unfold inV
    rw [List.any_eq_true]
    exact ⟨.int k, List.mem_map.mpr ⟨k, h, rfl⟩, by unfold eqV; exact decide_eq_true rfl⟩
  rw [this]
  rfl
section
variable {KC c0 : Addr} {CL : List Addr} {K : PySem.W.Frag} {mg : Str → Option Value} {fI fK : Addr}
theorem mk_bit {m : Nat} {v : Int} {args : V → List V} {H : Hp} {Q : VK} {C : Addr} (M : MB K mg CL fI fK) (hm : m < 16) (hv : v = 0 ∨ v = 1) (ha : ∀ z, args z = [z, .int v]) (q : ∀ (y : Addr) (H' : Hp), H y = none → BitAt C CL H' y m (w1 m) (w2 m) (w3 m) v → Same H H' → Q (.ref y) H') :
    Make (cB CL m) (spBI c0 CL) args (fun _ _ _ => False) H Q := by
  have nb : ∀ {A : Prop}, isBit (.int v) = false → A := fun h => by
    rcases hv with rfl | rfl <;> cases h
  refine make fun y dx H9 ny hy sy => ?_
  rw [ha]
  refine ⟨y, m, cB CL m, dx, .int v, rfl, M.at_ (by omega), hy, _, oI v, nb, fun b eb hb H' h' c => ⟨rfl, ?_⟩⟩
  cases eb
  exact q y H' ny (mk_plain hm (M.at_ (by omega)) h' rfl (.inl hb) (w_mem m hm)) fun r o e => c r o (sy r o e) (ne_of_none e ny)
theorem now_at {a n : Nat} {r w d : Str} {s : Int} {H : Hp} {Q : VK} {E : XK} (b : BitAt KC CL H a n r w d s) (q : Q (.int (Builtin.bitAnd s 1)) H) : ∃ a' n' C dx fs, V.ref a = .ref a' ∧ CL[n']? = some C ∧ H a' = some (.ins C dx fs) ∧ spNow CL n' [.ref a'] H Q E := by
  obtain ⟨C', dx, fs, hC, ha, hl, _⟩ := b.ins
  exact ⟨a, n, C', dx, fs, rfl, hC, ha, a, C', dx, fs, s, rfl, hC, ha, hl, q⟩
theorem sta_at {a n : Nat} {r w d : Str} {s : Int} {H : Hp} {Q : VK} {E : XK} (b : BitAt KC CL H a n r w d s) (q : Q (.int s) H) : ∃ a' n' C dx fs, V.ref a = .ref a' ∧ CL[n']? = some C ∧ H a' = some (.ins C dx fs) ∧ spSta CL n' [.ref a'] H Q E := by
  obtain ⟨C', dx, fs, hC, ha, hl, _⟩ := b.ins
  exact ⟨a, n, C', dx, fs, rfl, hC, ha, a, C', dx, fs, s, rfl, hC, ha, hl, q⟩
end
theorem w_cval {K : PySem.W.Frag} {ta : TE} {f : Str} {σ : L2.St} {H : Hp} {Q : VK} (q : ta σ H fun x H1 => ∃ C mc v u, x = .ref C ∧ ClX.CRead K C mc ∧ ClX.CVal K C mc f v u ∧ Q v H1) : ClX.tCVal K ta f σ H Q := q
def FA (KC : Addr) (CL : List Addr) (H : Hp) (bs : List Addr) : Prop := ∀ a ∈ bs, ∃ n r w d, BitAt KC CL H a n r w d 0
theorem FA.same {KC : Addr} {CL : List Addr} {H H' : Hp} {bs : List Addr} (h : FA KC CL H bs) (s : Same H H') : FA KC CL H' bs := fun a ha => by
  obtain ⟨n, r, w, d, b⟩ := h a ha
  exact ⟨n, r, w, d, b.ext (ExtN.of s)⟩
theorem FA.snoc {KC : Addr} {CL : List Addr} {H H' : Hp} {bs : List Addr} {x n : Nat} {r w d : Str} (h : FA KC CL H bs) (b : BitAt KC CL H' x n r w d 0) (s : Same H H') : FA KC CL H' (bs ++ [x]) := fun a ha => by
  rcases List.mem_append.mp ha with ha | ha
  · exact h.same s a ha
  · rw [List.mem_singleton.mp ha]
    exact ⟨n, r, w, d, b⟩
theorem BS.done {KC : Addr} {CL : List Addr} {H H' : Hp} {bs : List Addr} {ns : List Nat} {ss : List Int} {j : Nat} {x n m : Nat} {s' : Int} {p l : Addr} {cells : List Int} (h : BS KC CL H bs ns ss) (ej : bs[j]? = some x) (en : ns[j]? = some n) (bx : BitAt KC CL H' x n (w1 n) (w2 n) (w3 n) s') (pen : PenC m p l cells H) (k : Kpa p x H H') :
    BS KC CL H' bs ns (ss.set j s') := by
  obtain ⟨xs, hp, _⟩ := pen.at_p
  refine ⟨h.l1, by rw [List.length_set]; exact h.l2, h.lt, h.nd, fun i a q t e1 e2 e3 => ?_⟩
  by_cases hij : i = j
  · subst hij
    obtain rfl : x = a := Option.some.inj (ej.symm.trans e1)
    obtain rfl : n = q := Option.some.inj (en.symm.trans e2)
    have hlt : i < ss.length := by
      have := (List.getElem?_eq_some_iff.mp e3).1
      rwa [List.length_set] at this
    rw [List.getElem?_set_self hlt] at e3
    obtain rfl : s' = t := Option.some.inj e3
    exact bx
  · rw [List.getElem?_set_ne (fun z => hij z.symm)] at e3
    have b := h.at_ i a q t e1 e2 e3
    have hq := h.lt q (List.mem_of_getElem? e2)
    obtain ⟨C', dx, h1, h2, ew, mm⟩ := b.plain hq
    refine ⟨C', dx, _, h1, k _ _ h2 (fun z => ?_) (fun z => ?_), .inl ⟨hq, rfl, ew⟩, mm⟩
    · rw [z, hp] at h2
      cases h2
    · rw [z] at e1
      exact hij (h.nd i j x e1 ej)
theorem ixN_own {n j : Nat} (hj : j < n) : ixN n (j : Int) = some j := by
  unfold ixN
  rw [if_pos (by omega), if_pos (by omega), Int.toNat_natCast]
def spLaw (K : PySem.W.Frag) : Sp := fun vs H Q _ => ∃ (a : Addr) (ns : List Int), vs = [.ref a] ∧ SqL K H a (ns.map V.int) ∧ ns.length ≤ 63 ∧ ∀ H', Q (.bl true) H'
section
variable {P : Program} {w : World} {K : PySem.W.Frag} {mg : Str → Option Value} {base : Heap} {C c0 aW aI : Addr} {mc : Value} {CL : List Addr}
theorem ok_law {fl fT fI fK : Addr} {oc kV doc pm ct cdl : Value} {an od : Option Addr} {osl : Array (Option Value)} {fdT fdI fdK : FuncData} {d1 d2 : List Value} {wa : Nat → Addr}
    (lk : K.lookup fl = some ⟨oc, od, .func (PySem.W.fnOf "law" "law" (defArgs s_law) (defBody s_law) (defScope s_law) .none kV doc pm an cdl ct), osl⟩) (code : PySem.W.codeIn K cdl "law" = true) (B : B1 mg) (gZip : mg "zip" = none)
    (T : KT K w mg C aW aI mc) (TT : TB K CL) (M : MB K mg CL fI fK) (WD : Wd K CL wa)
    (c_law_pen : Cal P w K mg base 1 "_law_pen" (spPen K)) (c_law_draw : Cal P w K mg base 1 "_law_draw" spDraw) (c_law_words_of : Cal P w K mg base 1 "_law_words_of" spWords)
    (c_law_bit : CalX P w K mg base 7 "_law_bit" ["_law_number", "_law_begin"] (spMkB C c0 CL 16)) (c_law_marks : Cal P w K mg base 1 "_law_marks" (spMarks CL)) (c_law_above : Cal P w K mg base 1 "_law_above" spAbove) (c_law_done : Cal P w K mg base 6 "_law_done" (spDone C CL))
    (MK : Mk K C fT) (FIN : Gd P w K mg base CX0 1 fT fdT ["self", "reading", "writing", "device"] (spInit C)) (bIN : Binds K fdT ["self", "reading", "writing", "device"] [])
    (GI : Gd P w K mg base (L2.CX P w) 4 fI fdI ["self", "value"] (spBI c0 CL)) (vI1 : Vals [.int 0] d2) (bI1 : Binds K fdI ["self", "value"] d2) (kbI : KBn K fdI ["self", "value"] 1 ["value"] (fun us ws => us ++ ws) (fun us ws => us ++ ws))
    (GK : Gd P w K mg base (L2.CX P w) 5 fK fdK ["self", "kind", "value"] (spKI c0 CL)) (vK1 : Vals [.int 0] d1) (bK1 : Binds K fdK ["self", "kind", "value"] d1)
    (DNow : DProp P w K mg base 1 CL "now" (spNow CL)) (DSta : DProp P w K mg base 1 CL "state" (spSta CL)) :
    Gd P w K mg base CX0 9 fl (PySem.W.fnOf "law" "law" (defArgs s_law) (defBody s_law) (defScope s_law) .none kV doc pm an cdl ct) ["_law_script"] (spLaw K) := by
  refine gd_of (k := 8) lk code sc_law (fun vs H Q E h => ?_) (fun A outer s0 H vs Q E rm gd h => ?_)
  · obtain ⟨a, ns, rfl, _⟩ := h
    rfl
  · obtain ⟨a, ns, rfl, hS, hlen, q⟩ := h
    suffices h : ∃ t, PSs (cxOf CX0 P w K mg base ["_law_script", "_law_pen_here", "_law_numbers", "_law_turn", "_law_states", "_law_number", "_law_bits", "_law_state", "_law_spot", "_law_one", "_law_told", "_law_fresh", "_law_marks_here", "_law_at"] "law" (defScope s_law) fl cdl A outer s0 H E).nox (defBody s_law) t ∧ t { nx := fun _ H' => Q .non H', rt := Q } (start ["_law_script", "_law_pen_here", "_law_numbers", "_law_turn", "_law_states", "_law_number", "_law_bits", "_law_state", "_law_spot", "_law_one", "_law_told", "_law_fresh", "_law_marks_here", "_law_at"] [.ref a]) H by
      obtain ⟨t, h1, h2⟩ := h
      exact ⟨t, h1.nox, h2⟩
    refine ⟨_, (pss_cons (ps_set (i := 1) sc_law.nd rfl (Or.inr rfl) (pc c_law_pen rm (by decide) gd rfl (pa_cons (pv 0) pa_nil)))
    (pss_cons (ps_setLc (i := 2) (own := [("_law_turn", 3)]) (g := (gName 3)) (by rfl) sc_law.nd rfl rfl (sw_true rfl rfl rfl (by decide +kernel)) (pi_range1 rfl B.g_range (pa_cons (pe_op op_add pe_int (pc c_law_draw rm (by decide) gd rfl (pa_cons (pv 1) (pa_cons pe_int pa_nil)))) pa_nil)) (blkOk_by (own := [("_law_turn", 3)]) (N := ["_law_script", "_law_pen_here", "_law_numbers", "_law_turn", "_law_states", "_law_number", "_law_bits", "_law_state", "_law_spot", "_law_one", "_law_told", "_law_fresh", "_law_marks_here", "_law_at"]) (sc := defScope s_law) (by decide +kernel)) (fun _ _ _ _ _ => (pg_name (i := 3) sc_law.nd rfl (Or.inl rfl))) (fun _ _ _ _ _ => pts_nil) (fun _ _ _ _ _ => (pc c_law_draw rm (by decide) gd rfl (pa_cons (pv 1) (pa_cons pe_int pa_nil)))))
    (pss_cons (ps_expr (pe_bm PySem.F.plainAttrs_list PySem.F.slot_list_append PySem.F.type_list_append mt_append (pv 2) (pa_cons (pe_ix ix_list (pv 2) pe_int (fun _ _ => rfl)) pa_nil)))
    (pss_cons (ps_setLc (i := 4) (own := [("_law_number", 5)]) (g := (gName 5)) (by rfl) sc_law.nd rfl rfl (sw_true rfl rfl rfl (by decide +kernel)) (pi_list (pv 2)) (blkOk_by (own := [("_law_number", 5)]) (N := ["_law_script", "_law_pen_here", "_law_numbers", "_law_turn", "_law_states", "_law_number", "_law_bits", "_law_state", "_law_spot", "_law_one", "_law_told", "_law_fresh", "_law_marks_here", "_law_at"]) (sc := defScope s_law) (by decide +kernel)) (fun _ _ _ _ _ => (pg_name (i := 5) sc_law.nd rfl (Or.inl rfl))) (fun _ _ _ _ _ => pts_nil) (fun _ _ _ _ _ => (pc c_law_draw rm (by decide) gd rfl (pa_cons (pv 1) (pa_cons pe_int pa_nil)))))
    (pss_cons (ps_setLc (i := 6) (own := [("_law_number", 5), ("_law_state", 7)]) (g := (gTup K 2 (gCons (gName 5) (gCons (gName 7) gNil)))) (by rfl) sc_law.nd rfl rfl (sw_true rfl rfl rfl (by decide +kernel)) (RZ.pi_zipA (by rfl) gZip (pa_cons (pv 2) (pa_cons (pv 4) pa_nil))) (blkOk_by (own := [("_law_number", 5), ("_law_state", 7)]) (N := ["_law_script", "_law_pen_here", "_law_numbers", "_law_turn", "_law_states", "_law_number", "_law_bits", "_law_state", "_law_spot", "_law_one", "_law_told", "_law_fresh", "_law_marks_here", "_law_at"]) (sc := defScope s_law) (by decide +kernel)) (fun _ _ _ _ _ => (pg_tup rfl (pgs_cons (pg_name (i := 5) sc_law.nd rfl (Or.inl rfl)) (pgs_cons (pg_name (i := 7) sc_law.nd rfl (Or.inl rfl)) pgs_nil)))) (fun _ _ _ _ _ => pts_nil) (fun _ _ _ _ _ => (pcX (E := fun _ _ _ => False) c_law_bit pass_no rm (by decide) gd rfl (pa_cons (pv 5) (pa_cons (pv 7) pa_nil)))))
    (pss_cons (ps_for PassesOwn.never rfl (RZ.pi_zipA (by rfl) gZip (pa_cons (pv 6) (pa_cons (pv 2) pa_nil))) (pg_tup rfl (pgs_cons (pg_name (i := 8) sc_law.nd rfl (Or.inr rfl)) (pgs_cons (pg_name (i := 5) sc_law.nd rfl (Or.inl rfl)) pgs_nil)))
      (pss_cons (ps_if (pt_cmpR op_ne (pe_callB (call_repr rm gd) (by rfl) B.g_repr (by decide +kernel) (pa_cons (pe_con (pv 8) rfl) pa_nil)) (pe_callB (call_repr rm gd) (by rfl) B.g_repr (by decide +kernel) (pa_cons (pc c_law_words_of rm (by decide) gd rfl (pa_cons (pv 5) pa_nil)) pa_nil)) (nomark _))
        (pss_one (ps_ret pe_bl))
        pss_nil)
      (pss_one (ps_if (pt_cmpR (op_neD rm.units) (pe_lc (own := [("_law_one", 9)]) (g := (gName 9)) (by rfl) sc_law.nd (pi_list (pc c_law_above rm (by decide) gd rfl (pa_cons (pv 5) pa_nil))) (blkOk_by (own := [("_law_one", 9)]) (N := ["_law_script", "_law_pen_here", "_law_numbers", "_law_turn", "_law_states", "_law_number", "_law_bits", "_law_state", "_law_spot", "_law_one", "_law_told", "_law_fresh", "_law_marks_here", "_law_at"]) (sc := defScope s_law) (by decide +kernel)) (fun _ _ _ _ _ => (pg_name (i := 9) sc_law.nd rfl (Or.inl rfl))) (fun _ _ _ _ _ => (pts_one (pt_cmpR (r := rIn K true) op_notIn_seq (pv 9) (pc c_law_marks rm (by decide) gd rfl (pa_cons (pv 8) pa_nil)) rfl))) (fun _ _ _ _ _ => (pv 9))) (pe_lst pa_nil) (nomark _))
        (pss_one (ps_ret pe_bl))
        pss_nil))))
    (pss_cons (ps_if (pt_cmpR op_ne (pe_callB (call_repr rm gd) (by rfl) B.g_repr (by decide +kernel) (pa_cons (pe_tup (pa_cons (pe_dprop (E := fun _ _ _ => False) (pe_gmake0 (E := fun _ _ _ => False) (M.mkB 0 (by decide)) GI (rm.mono (by decide)) gd rfl (M.gB 0 (by decide)) bI1 vI1 pass_no) DNow (rm.mono (by decide)) (Nat.le_refl _) gd) (pa_cons (pe_dprop (E := fun _ _ _ => False) (pe_gmake0 (E := fun _ _ _ => False) (M.mkB 13 (by decide)) GI (rm.mono (by decide)) gd rfl (M.gB 13 (by decide)) bI1 vI1 pass_no) DSta (rm.mono (by decide)) (Nat.le_refl _) gd) (pa_cons (pe_dprop (E := fun _ _ _ => False) (pe_gmakeK (E := fun _ _ _ => False) (M.mkB 15 (by decide)) GI (rm.mono (by decide)) gd rfl (M.gB 15 (by decide)) kbI pass_no (pk_cons pe_int pk_nil)) DNow (rm.mono (by decide)) (Nat.le_refl _) gd) pa_nil)))) pa_nil)) pe_str (nomark _))
      (pss_one (ps_ret pe_bl))
      pss_nil)
    (pss_cons (ps_set (i := 10) sc_law.nd rfl (Or.inl rfl) (pe_lst (pa_cons (ClX.pe_cval (pe_glob (v := .ref (cB CL 0)) rfl (M.gB 0 (by decide)) rfl)) (pa_cons (ClX.pe_cval (pe_glob (v := .ref (cB CL 6)) rfl (M.gB 6 (by decide)) rfl)) (pa_cons (ClX.pe_cval (pe_glob (v := .ref (cB CL 10)) rfl (M.gB 10 (by decide)) rfl)) (pa_cons (ClX.pe_cval (pe_glob (v := .ref (cB CL 11)) rfl (M.gB 11 (by decide)) rfl)) (pa_cons (ClX.pe_cval (pe_glob (v := .ref (cB CL 15)) rfl (M.gB 15 (by decide)) rfl)) pa_nil)))))))
    (pss_cons (ps_if (pt_cmpR (op_neD rm.units) (pv 10) (pe_lc (own := [("_law_number", 5)]) (g := (gName 5)) (by rfl) sc_law.nd (pi_tup (pe_tup (pa_cons pe_int (pa_cons pe_int (pa_cons pe_int (pa_cons pe_int (pa_cons pe_int pa_nil))))))) (blkOk_by (own := [("_law_number", 5)]) (N := ["_law_script", "_law_pen_here", "_law_numbers", "_law_turn", "_law_states", "_law_number", "_law_bits", "_law_state", "_law_spot", "_law_one", "_law_told", "_law_fresh", "_law_marks_here", "_law_at"]) (sc := defScope s_law) (by decide +kernel)) (fun _ _ _ _ _ => (pg_name (i := 5) sc_law.nd rfl (Or.inl rfl))) (fun _ _ _ _ _ => pts_nil) (fun _ _ _ _ _ => (pc c_law_words_of rm (by decide) gd rfl (pa_cons (pv 5) pa_nil)))) (nomark _))
      (pss_one (ps_ret pe_bl))
      pss_nil)
    (pss_cons (ps_set (i := 11) sc_law.nd rfl (Or.inl rfl) (pe_lst (pa_cons (pe_gmake0 (E := fun _ _ _ => False) (M.mkB 0 (by decide)) GI (rm.mono (by decide)) gd rfl (M.gB 0 (by decide)) bI1 vI1 pass_no) (pa_cons (pe_gmake0 (E := fun _ _ _ => False) (M.mkB 1 (by decide)) GI (rm.mono (by decide)) gd rfl (M.gB 1 (by decide)) bI1 vI1 pass_no) (pa_cons (pe_gmake0 (E := fun _ _ _ => False) (M.mkB 2 (by decide)) GI (rm.mono (by decide)) gd rfl (M.gB 2 (by decide)) bI1 vI1 pass_no) (pa_cons (pe_gmake0 (E := fun _ _ _ => False) (M.mkB 3 (by decide)) GI (rm.mono (by decide)) gd rfl (M.gB 3 (by decide)) bI1 vI1 pass_no) (pa_cons (pe_gmake0 (E := fun _ _ _ => False) (M.mkB 4 (by decide)) GI (rm.mono (by decide)) gd rfl (M.gB 4 (by decide)) bI1 vI1 pass_no) (pa_cons (pe_gmake0 (E := fun _ _ _ => False) (M.mkB 5 (by decide)) GI (rm.mono (by decide)) gd rfl (M.gB 5 (by decide)) bI1 vI1 pass_no) (pa_cons (pe_gmake0 (E := fun _ _ _ => False) (M.mkB 6 (by decide)) GI (rm.mono (by decide)) gd rfl (M.gB 6 (by decide)) bI1 vI1 pass_no) (pa_cons (pe_gmake0 (E := fun _ _ _ => False) (M.mkB 7 (by decide)) GI (rm.mono (by decide)) gd rfl (M.gB 7 (by decide)) bI1 vI1 pass_no) pa_nil))))))))))
    (pss_cons (ps_set (i := 11) sc_law.nd rfl (Or.inl rfl) (pe_op op_cat (pv 11) (pe_lst (pa_cons (pe_gmake0 (E := fun _ _ _ => False) (M.mkB 8 (by decide)) GI (rm.mono (by decide)) gd rfl (M.gB 8 (by decide)) bI1 vI1 pass_no) (pa_cons (pe_gmake0 (E := fun _ _ _ => False) (M.mkB 9 (by decide)) GI (rm.mono (by decide)) gd rfl (M.gB 9 (by decide)) bI1 vI1 pass_no) (pa_cons (pe_gmake0 (E := fun _ _ _ => False) (M.mkB 10 (by decide)) GI (rm.mono (by decide)) gd rfl (M.gB 10 (by decide)) bI1 vI1 pass_no) (pa_cons (pe_gmake0 (E := fun _ _ _ => False) (M.mkB 11 (by decide)) GI (rm.mono (by decide)) gd rfl (M.gB 11 (by decide)) bI1 vI1 pass_no) (pa_cons (pe_gmake0 (E := fun _ _ _ => False) (M.mkB 12 (by decide)) GI (rm.mono (by decide)) gd rfl (M.gB 12 (by decide)) bI1 vI1 pass_no) (pa_cons (pe_gmake0 (E := fun _ _ _ => False) (M.mkB 13 (by decide)) GI (rm.mono (by decide)) gd rfl (M.gB 13 (by decide)) bI1 vI1 pass_no) (pa_cons (pe_gmake0 (E := fun _ _ _ => False) (M.mkB 14 (by decide)) GI (rm.mono (by decide)) gd rfl (M.gB 14 (by decide)) bI1 vI1 pass_no) pa_nil))))))))))
    (pss_cons (ps_if (pt_cmpR (op_neD rm.units) (pe_lc (own := [("_law_one", 9)]) (g := (gName 9)) (by rfl) sc_law.nd (pi_list (pe_op op_cat (pv 11) (pe_lst (pa_cons (pe_gmake0 (E := fun _ _ _ => False) (M.mkB 15 (by decide)) GI (rm.mono (by decide)) gd rfl (M.gB 15 (by decide)) bI1 vI1 pass_no) pa_nil)))) (blkOk_by (own := [("_law_one", 9)]) (N := ["_law_script", "_law_pen_here", "_law_numbers", "_law_turn", "_law_states", "_law_number", "_law_bits", "_law_state", "_law_spot", "_law_one", "_law_told", "_law_fresh", "_law_marks_here", "_law_at"]) (sc := defScope s_law) (by decide +kernel)) (fun _ _ _ _ _ => (pg_name (i := 9) sc_law.nd rfl (Or.inl rfl))) (fun _ _ _ _ _ => pts_nil) (fun _ _ _ _ _ => (pe_dprop (E := fun _ _ _ => False) (pv 9) DSta (rm.mono (by decide)) (Nat.le_refl _) gd))) (pe_op op_rep (pe_lst (pa_cons pe_int pa_nil)) pe_int) (nomark _))
      (pss_one (ps_ret pe_bl))
      pss_nil)
    (pss_cons (ps_set (i := 12) sc_law.nd rfl (Or.inl rfl) (pc c_law_marks rm (by decide) gd rfl (pa_cons (pe_gmake (E := fun _ _ _ => False) M.mkK GK (rm.mono (by decide)) gd rfl (M.gB 16 (by decide)) bK1 vK1 pass_no (pa_cons (pe_gmake MK FIN (rm.mono (by decide)) gd rfl T.g_Kind bIN .nil pass0 (pa_cons pe_str (pa_cons pe_str (pa_cons pe_str pa_nil)))) pa_nil)) pa_nil)))
    (pss_mid (ps_if (PW.pt (pw_or (pt_cmpR op_notIn_seq pe_int (pv 12) rfl) (pw_or1 (pt_cmpR op_notIn_seq pe_int (pv 12) rfl))))
      (pss_one (ps_ret pe_bl))
      pss_nil)
    (pss_cons (ps_for PassesOwn.never rfl (pi_range1 rfl B.g_range (pa_cons (pe_op op_add pe_int (pc c_law_draw rm (by decide) gd rfl (pa_cons (pv 1) (pa_cons pe_int pa_nil)))) pa_nil)) (pg_name (i := 3) sc_law.nd rfl (Or.inl rfl))
      (pss_cons (ps_set (i := 13) sc_law.nd rfl (Or.inl rfl) (pc c_law_draw rm (by decide) gd rfl (pa_cons (pv 1) (pa_cons (pe_callB call_len_seq (by rfl) B.g_len (by decide +kernel) (pa_cons (pv 6) pa_nil)) pa_nil))))
      (pss_cons (ps_asg (pc c_law_done rm (by decide) gd rfl (pa_cons (pv 1) (pa_cons (pe_ix ix_list (pv 6) (pv 13) (fun _ _ => rfl)) (pa_cons (pc c_law_words_of rm (by decide) gd rfl (pa_cons (pe_ix ix_list (pv 2) (pv 13) (fun _ _ => rfl)) pa_nil)) (pa_cons (pe_ix ix_list (pv 4) (pv 13) (fun _ _ => rfl)) pa_nil))))) (pg_sub (pv 4) (pv 13) set_list))
      (pss_cons (ps_if (pt_cmpR op_isN (pe_ix ix_list (pv 4) (pv 13) (fun _ _ => rfl)) pe_non (nomark _))
        (pss_one (ps_ret pe_bl))
        pss_nil)
      (pss_one (ps_for PassesOwn.never rfl (RZ.pi_zipA (by rfl) gZip (pa_cons (pv 6) (pa_cons (pv 4) pa_nil))) (pg_tup rfl (pgs_cons (pg_name (i := 8) sc_law.nd rfl (Or.inr rfl)) (pgs_cons (pg_name (i := 7) sc_law.nd rfl (Or.inl rfl)) pgs_nil)))
        (pss_one (ps_if (pt_cmpR op_ne (pe_callB (call_repr rm gd) (by rfl) B.g_repr (by decide +kernel) (pa_cons (pe_tup (pa_cons (pe_dprop (E := fun _ _ _ => False) (pv 8) DNow (rm.mono (by decide)) (Nat.le_refl _) gd) (pa_cons (pe_dprop (E := fun _ _ _ => False) (pv 8) DSta (rm.mono (by decide)) (Nat.le_refl _) gd) pa_nil))) pa_nil)) (pe_callB (call_repr rm gd) (by rfl) B.g_repr (by decide +kernel) (pa_cons (pe_tup (pa_cons (pe_op op_mod (pv 7) pe_int) (pa_cons (pv 7) pa_nil))) pa_nil)) (nomark _))
          (pss_one (ps_ret pe_bl))
          pss_nil))))))))
    (pss_one (ps_ret pe_bl))))))))))))))))), ?_⟩
    walk_at "go"
    refine ⟨a, ns, rfl, hS, hlen, fun p l cells H1 np pen1 s1 => ?_⟩
    walk_at "go"
    refine ⟨p, l, cells, 0, 5, rfl, pen1, by omega, by decide, by decide, fun d0 H2 d00 d01 pen2 k2 => ?_⟩
    walk_at "go"
    refine over_r (by show -(2 ^ 62) ≤ 1 + d0; omega) (by show 1 + d0 < 2 ^ 62; omega) ?_
    intro N nN
    have zN : Same H2 (upd H2 N (.lst [])) := fun b u e => by
      rw [upd_ne (ne_of_none e nN)]
      exact e
    obtain ⟨nNp, nNl⟩ := pen_ne pen2 nN
    refine lc_range (lo := 0) (n := (1 + d0).toNat) (fun i H' => ∃ ns : List Nat, H' N = some (.lst (nV ns)) ∧ ns.length = i ∧ (∀ n ∈ ns, n < 16) ∧ PenC (1 + i) p l cells H') ⟨[], upd_same, rfl, fun v hv => by simp at hv, pen2.same zN⟩ (fun i H3 hi ⟨ns, hD, hl, hlt, pen3⟩ => ?_) (fun H3 ⟨ns1, hD, hl, hlt, pen3⟩ => ?_)
    · walk_at "go"
      refine ⟨rfl, ?_⟩
      unfold tYes
      refine iteT ?_
      walk_at "go"
      refine ⟨p, l, cells, 1 + i, 16, rfl, pen3, by omega, by decide, by decide, fun v H4 v0 v1 pen4 k4 => ?_⟩
      obtain ⟨vn, rfl⟩ := Int.eq_ofNat_of_zero_le v0
      have hD4 := k4 _ _ hD nNp
      refine ⟨_, hD4, big_of (by rw [nV_len]; omega), ns ++ [vn], ?_, by rw [List.length_append, hl]; rfl, fun y hy => ?_, pen_at pen4 nNp nNl⟩
      · rw [upd_same, nV_snoc]
      · rcases List.mem_append.mp hy with hy | hy
        · exact hlt y hy
        · rw [List.mem_singleton.mp hy]
          omega
    obtain ⟨n0, nr, rfl⟩ : ∃ n0 nr, ns1 = n0 :: nr := by
      cases ns1 with
      | nil =>
        have : (1 + d0).toNat = 0 := hl.symm
        omega
      | cons x r => exact ⟨x, r, rfl⟩
    walk_at "go"
    refine w_bm ?_
    walk_at "go"
    refine ⟨ty_list hD, ?_⟩
    walk_at "go"
    refine w_ixL (SqL.of hD) (v := .int ((n0 : Nat) : Int)) (show atI (nV (n0 :: nr)) ((0 : Nat) : Int) = _ from atI_nat rfl) ?_
    walk_at "go"
    refine w_app hD (big_of (by rw [nV_len]; omega)) (nV_snoc _ n0).symm fun H4 hN4 e4 => ?_
    have pen4 : PenC 6 p l cells H4 := by
      obtain ⟨q1, q2, x, y, z, q3⟩ := pen3
      exact ⟨q1, (e4 l nNl.symm).trans q2, x, y, by omega, (e4 p nNp.symm).trans q3⟩
    have hltN : ∀ n ∈ (n0 :: nr) ++ [n0], n < 16 := fun n hn => by
      rcases List.mem_append.mp hn with h | h
      · exact hlt n h
      · rw [List.mem_singleton.mp h]
        exact hlt n0 List.mem_cons_self
    have lenN : ((n0 :: nr) ++ [n0]).length = (1 + d0).toNat + 1 := by
      rw [List.length_append, hl]
      rfl
    have lenB : ((n0 :: nr) ++ [n0]).length ≤ 6 ∧ 2 ≤ ((n0 :: nr) ++ [n0]).length := by omega
    generalize (n0 :: nr) ++ [n0] = nm at hN4 hltN lenN lenB
    clear hlt hl hD pen3 zN nN k2 pen2 s1 pen1 np
    walk_at "go"
    refine over_l (SqL.of hN4) ?_
    intro S nS
    have zS : Same H4 (upd H4 S (.lst [])) := fun b u e => by
      rw [upd_ne (ne_of_none e nS)]
      exact e
    obtain ⟨nSp, nSl⟩ := pen_ne pen4 nS
    have nSN : S ≠ N := fun z => by
      rw [z, hN4] at nS
      cases nS
    refine lc_list (K := K) (a := N) (xs := nV nm) (fun i H' => ∃ ss : List Int, H' S = some (.lst (ss.map V.int)) ∧ ss.length = i ∧ (∀ s ∈ ss, s = 0 ∨ s = 1) ∧ PenC (6 + i) p l cells H' ∧ H' N = some (.lst (nV nm))) ⟨[], upd_same, rfl, fun v hv => by simp at hv, pen4.same zS, zS _ _ hN4⟩ (fun i H5 _ ⟨_, _, _, _, _, h⟩ => SqL.of h) (fun i x H5 hx ⟨ss, hD, hl, hlt, pen5, hN5⟩ => ?_) (fun H5 ⟨ss, hS5, lenS, hltS, pen5, hN5⟩ => ?_)
    · have hi : i < nm.length := by
        have := (List.getElem?_eq_some_iff.mp hx).1
        rwa [nV_len] at this
      walk_at "go"
      refine ⟨rfl, ?_⟩
      unfold tYes
      refine iteT ?_
      walk_at "go"
      refine ⟨p, l, cells, 6 + i, 2, rfl, pen5, by omega, by decide, by decide, fun v H6 v0 v1 pen6 k6 => ?_⟩
      refine ⟨_, k6 _ _ hD nSp, big_of (by rw [List.length_map]; omega), ss ++ [v], ?_, by rw [List.length_append, hl]; rfl, fun y hy => ?_, pen_at pen6 nSp nSl, (upd_ne nSN.symm).trans (k6 _ _ hN5 nNp)⟩
      · rw [upd_same, List.map_append]
        rfl
      · rcases List.mem_append.mp hy with hy | hy
        · exact hlt y hy
        · rw [List.mem_singleton.mp hy]
          omega
    rw [nV_len] at lenS pen5
    have pen5 : PenC 12 p l cells H5 := pen5.mono (by omega)
    walk_at "go"
    refine w_izip ?_
    walk_at "go"
    refine ⟨N, S, _, _, rfl, .inl ⟨SqL.of hN5, SqL.of hS5, ?_⟩⟩
    intro G nG
    have zG : Same H5 (upd H5 G (.lst [])) := fun b u e => by
      rw [upd_ne (ne_of_none e nG)]
      exact e
    obtain ⟨nGp, nGl⟩ := pen_ne pen5 nG
    have nGN : G ≠ N := fun z => by
      rw [z, hN5] at nG
      cases nG
    have nGS : G ≠ S := fun z => by
      rw [z, hS5] at nG
      cases nG
    refine lc_zip (K := K) (xs := nV nm) (ys := ss.map V.int) (by rw [nV_len, List.length_map, lenS]) (fun i H' => ∃ bs : List Addr, H' G = some (.lst (bs.map V.ref)) ∧ bs.length = i ∧ BS C CL H' bs (nm.take i) (ss.take i) ∧ Same H5 H') ⟨[], upd_same, rfl, ?_, zG⟩ (fun i H6 _ ⟨_, _, _, _, s⟩ => ⟨SqL.of (s _ _ hN5), SqL.of (s _ _ hS5)⟩) (fun i x y Tp H6 H7 hx hy ⟨bs, hD, hl, bsI, s6⟩ nT hT s7 => ?_) (fun H6 ⟨bs, hG6, lenG, bs6, s6⟩ => ?_)
    · exact ⟨rfl, rfl, fun n hn => by simp at hn, fun i j a h => by simp at h, fun i a n s h => by simp at h⟩
    · obtain ⟨n, hn, rfl⟩ := nV_inv hx
      obtain ⟨s, hs, rfl⟩ : ∃ s, ss[i]? = some s ∧ y = .int s := by
        rw [List.getElem?_map] at hy
        cases e : ss[i]? with
        | none =>
          rw [e] at hy
          cases hy
        | some s =>
          rw [e] at hy
          exact ⟨s, rfl, (Option.some.inj hy).symm⟩
      have hn16 : n < 16 := hltN n (List.mem_of_getElem? hn)
      have h01 : s = 0 ∨ s = 1 := hltS s (List.mem_of_getElem? hs)
      have nb : ∀ {A : Prop}, isBit (.int s) = false → A := fun h => by
        rcases h01 with rfl | rfl <;> cases h
      refine ⟨Tp, _, rfl, SqT.of hT, rfl, _, _, rfl, _, _, rfl, rfl, ?_⟩
      refine ⟨rfl, ?_⟩
      unfold tYes
      refine iteT ?_
      walk_at "go"
      refine ⟨n, _, rfl, hn16, _, oI s, nb, fun b eb hb x H8 nx bx s8 => ?_⟩
      cases eb
      have s68 := s7.trans s8
      refine ⟨_, s68 _ _ hD, big_of (by rw [List.length_map, hl]; have := (List.getElem?_eq_some_iff.mp hn).1; omega), bs ++ [x], by rw [upd_same, List.map_append]; rfl, by rw [List.length_append, hl]; rfl, ?_, ?_⟩
      · rw [take_snoc hn, take_snoc hs]
        have b8 := bsI.snoc (back s7 nx) bx s68 hn16
        exact b8.map fun b => b.kpL (s68 _ _ hD) fun q o e ne => by
          rw [upd_ne ne]
          exact e
      · exact fun q o e => by
          rw [upd_ne (ne_of_none e nG)]
          exact s68 _ _ (s6 _ _ e)
    have hN6 := s6 _ _ hN5
    have hS6 := s6 _ _ hS5
    have pen6 := pen5.same s6
    rw [nV_len] at lenG bs6
    have bs6 : BS C CL H6 bs nm ss := by
      have e1 : nm.take nm.length = nm := List.take_length ..
      have e2 : ss.take nm.length = ss := by rw [← lenS]; exact List.take_length ..
      rwa [e1, e2] at bs6
    clear s6 hS5 hN5 pen5 zG nG zS nS pen4 hN4 e4 hltS
    walk_at "go"
    refine w_izip ?_
    walk_at "go"
    refine ⟨G, N, _, _, rfl, .inl ⟨SqL.of hG6, SqL.of hN6, ?_⟩⟩
    refine for_zip (K := K) (xs := bs.map V.ref) (ys := nV nm) (by rw [nV_len, List.length_map, lenG]) (fun i σ H' => (∃ v3 v5 v7 v8 v9 v10 v11 v12 v13, σ = [some (.ref a), some (.ref p), some (.ref N), v3, some (.ref S), v5, some (.ref G), v7, v8, v9, v10, v11, v12, v13]) ∧ Same H6 H') ⟨⟨_, _, _, _, _, _, _, _, _, rfl⟩, fun _ _ h => h⟩ (fun i σ H' ⟨_, s⟩ => ⟨SqL.of (s _ _ hG6), SqL.of (s _ _ hN6)⟩) ?_ ?_
    · rintro i x y Tp σ H7 H8 hx hy ⟨⟨v3, v5, v7, v8, v9, v10, v11, v12, v13, rfl⟩, s7⟩ nT hT s8
      obtain ⟨n, hn, rfl⟩ := nV_inv hy
      obtain ⟨x, hxa, rfl⟩ : ∃ c, bs[i]? = some c ∧ x = .ref c := by
        rw [List.getElem?_map] at hx
        cases e : bs[i]? with
        | none =>
          rw [e] at hx
          cases hx
        | some c =>
          rw [e] at hx
          exact ⟨c, rfl, (Option.some.inj hx).symm⟩
      refine ⟨Tp, _, rfl, SqT.of hT, rfl, _, _, rfl, _, _, rfl, rfl, ?_⟩
      walk_at "go"
      obtain ⟨n', s', hn', hs', hn16, bx⟩ := bs6.some_at hxa
      obtain rfl : n' = n := Option.some.inj (hn'.symm.trans hn)
      have s78 := s7.trans s8
      have bx8 := bx.ext (ExtN.of s78)
      obtain ⟨C', dx, fs, hC, ha, hl, hxl⟩ := bx8.ins
      refine w_con (w_var rfl ⟨x, C', dx, fs, _, _, rfl, ha, TT.cl _ C' hC, WD.con _ C' hn16 hC, hxl "WORDS" (by decide) (by decide), ?_⟩)
      have sh := wd_show _ hn16
      walk_at "go"
      refine ⟨_, wdD n', rfl, .tup ((WD.tup _ hn16).t _) (.cons (.str _) (.cons (.str _) (.cons (.str _) .nil))), sh.1, sh.2.1, sh.2.2.1, sh.2.2.2, ?_⟩
      walk_at "go"
      refine ⟨n', rfl, hn16, fun tw H9 ntw htw s9 => ?_⟩
      walk_at "go"
      refine ⟨_, wdD n', rfl, .tup (SqT.of htw) (.cons (.str _) (.cons (.str _) (.cons (.str _) .nil))), sh.1, sh.2.1, sh.2.2.1, sh.2.2.2, ?_⟩
      generalize (wdD n').shown = zz
      walk_at "go"
      refine iteNe ?_
      walk_at "go"
      refine ⟨n', rfl, hn16, fun ta na H10 nta hta lna mna s10 => ?_⟩
      walk_at "go"
      have s910 := s9.trans s10
      have ha10 := s910 _ _ ha
      refine over_l (SqL.of hta) ?_
      intro D2 nD2
      have z2 : Same H10 (upd H10 D2 (.lst [])) := fun b u e => by
        rw [upd_ne (ne_of_none e nD2)]
        exact e
      refine lc_list (K := K) (a := ta) (xs := na.map V.int) (fun _ H' => H' D2 = some (.lst []) ∧ Same H10 H') ⟨upd_same, z2⟩ (fun i H' _ ⟨_, s⟩ => SqL.of (s _ _ hta)) (fun i y H11 hy ⟨hD2, s11⟩ => ?_) (fun H11 ⟨hD2, s11⟩ => ?_)
      · obtain ⟨k, hk, rfl⟩ : ∃ k, na[i]? = some k ∧ y = .int k := by
          rw [List.getElem?_map] at hy
          cases e : na[i]? with
          | none =>
            rw [e] at hy
            cases hy
          | some k =>
            rw [e] at hy
            exact ⟨k, rfl, (Option.some.inj hy).symm⟩
        walk_at "go"
        refine ⟨rfl, ?_⟩
        walk_at "go"
        refine ⟨x, n', C', dx, fs, rfl, hC, s11 _ _ ha10, fun tm H12 ntm htm s12 => ?_⟩
        refine w_in (.inl (SqL.of htm)) rfl (flat_ints _) ?_
        rw [in_mk (mna k (List.mem_of_getElem? hk))]
        exact ⟨false, rfl, iteF ⟨s12 _ _ hD2, s11.trans s12⟩⟩
      · walk_at "go"
        refine new (show 0 ≤ sizeLine by decide) fun t5 H12 n5 h5 s12 => ?_
        refine ⟨.list [], .list [], .lst (SqL.of (s12 _ _ hD2)) .nil, .lst (SqL.of h5) .nil, by decide +kernel, by decide +kernel, ?_⟩
        rw [show PyData.eqv (.list []) (.list []) = true by decide +kernel]
        walk_at "go"
        refine iteF ?_
        walk_at "go"
        exact ⟨⟨_, _, _, _, _, _, _, _, _, rfl⟩, s7.trans (s8.trans (s910.trans (s11.trans s12)))⟩
    · rintro σ H7 ⟨⟨v3, v5, v7, v8, v9, v10, v11, v12, v13, rfl⟩, s7⟩
      have big3 : 3 ≤ sizeLine := by decide
      walk_at "go"
      refine w_dynP ?_
      walk_at "go"
      refine mk_bit (C := C) M (show 0 < 16 by decide) (.inl rfl) (fun _ => rfl) fun b0 H8 nb0 bt0 s8 => now_at bt0 ?_
      walk_at "go"
      refine w_dynP ?_
      walk_at "go"
      refine mk_bit (C := C) M (show 13 < 16 by decide) (.inl rfl) (fun _ => rfl) fun b1 H9 nb1 bt1 s9 => sta_at bt1 ?_
      walk_at "go"
      refine w_dynP ?_
      walk_at "go"
      refine ⟨rfl, ?_⟩
      refine mk_bit (C := C) M (show 15 < 16 by decide) (.inr rfl) (fun _ => rfl) fun b2 H10 nb2 bt2 s10 => now_at bt2 ?_
      walk_at "go"
      refine new big3 fun t11 H11 nt11 ht11 s11 => ?_
      walk_at "go"
      refine ⟨_, .tuple [.int (Builtin.bitAnd 0 1), .int 0, .int (Builtin.bitAnd 1 1)], rfl, .tup (SqT.of ht11) (.cons (.int _) (.cons (.int _) (.cons (.int _) .nil))), by decide +kernel, by decide +kernel, by decide +kernel, by decide +kernel, ?_⟩
      rw [show (PyData.tuple [.int (Builtin.bitAnd 0 1), .int 0, .int (Builtin.bitAnd 1 1)]).shown = ("(0, 0, 1)" : Str) by decide +kernel]
      walk_at "go"
      refine iteNe ?_
      walk_at "go"
      obtain ⟨mc0, rd0, cv0⟩ := WD.rd 0 (by decide)
      refine w_cval (w_c ⟨_, mc0, _, _, rfl, rd0, cv0, ?_⟩)
      walk_at "go"
      obtain ⟨mc6, rd6, cv6⟩ := WD.rd 6 (by decide)
      refine w_cval (w_c ⟨_, mc6, _, _, rfl, rd6, cv6, ?_⟩)
      walk_at "go"
      obtain ⟨mc10, rd10, cv10⟩ := WD.rd 10 (by decide)
      refine w_cval (w_c ⟨_, mc10, _, _, rfl, rd10, cv10, ?_⟩)
      walk_at "go"
      obtain ⟨mc11, rd11, cv11⟩ := WD.rd 11 (by decide)
      refine w_cval (w_c ⟨_, mc11, _, _, rfl, rd11, cv11, ?_⟩)
      walk_at "go"
      obtain ⟨mc15, rd15, cv15⟩ := WD.rd 15 (by decide)
      refine w_cval (w_c ⟨_, mc15, _, _, rfl, rd15, cv15, ?_⟩)
      walk_at "go"
      refine new (show 5 ≤ sizeLine by decide) fun t12 H12 nt12 ht12 s12 => ?_
      walk_at "go"
      refine new (show 5 ≤ sizeLine by decide) fun t13 H13 nt13 ht13 s13 => ?_
      walk_at "go"
      refine over_t (SqT.of ht13) ?_
      intro D3 nD3
      have z3 : Same H13 (upd H13 D3 (.lst [])) := fun b u e => by
        rw [upd_ne (ne_of_none e nD3)]
        exact e
      refine lc_tup (K := K) (a := t13) (xs := nV [0, 6, 10, 11, 15]) (fun i H' => ∃ ts : List Addr, H' D3 = some (.lst (ts.map V.ref)) ∧ ts.length = i ∧ (∀ (j : Nat) (q : Addr) (n : Nat), ts[j]? = some q → ([0, 6, 10, 11, 15] : List Nat)[j]? = some n → H' q = some (.tup [.str (w1 n), .str (w2 n), .str (w3 n)])) ∧ Same H13 H') ⟨[], upd_same, rfl, fun j q n h => by simp at h, z3⟩ (fun i H' _ ⟨_, _, _, _, s⟩ => SqT.of (s _ _ ht13)) (fun i y H14 hy ⟨ts, hD3, hl, hts, s14⟩ => ?_) (fun H14 ⟨ts, hD3, hl, hts, s14⟩ => ?_)
      · obtain ⟨n, hn, rfl⟩ := nV_inv hy
        have hn16 : n < 16 := by
          have hm := List.mem_of_getElem? hn
          simp only [List.mem_cons, List.not_mem_nil, or_false] at hm
          omega
        walk_at "go"
        refine ⟨rfl, ?_⟩
        unfold tYes
        refine iteT ?_
        walk_at "go"
        refine ⟨n, rfl, hn16, fun tw H15 ntw htw s15 => ?_⟩
        have hi : i < 5 := (List.getElem?_eq_some_iff.mp hn).1
        have nq : ∀ q o, H15 q = some o → q ≠ D3 → upd H15 D3 (.lst (ts.map V.ref ++ [.ref tw])) q = some o := fun q o e ne => by
          rw [upd_ne ne]
          exact e
        have nD : ∀ q xs, H15 q = some (.tup xs) → q ≠ D3 := fun q xs e z => by
          rw [z, s15 _ _ hD3] at e
          cases e
        refine ⟨_, s15 _ _ hD3, big_of (by rw [List.length_map]; omega), ts ++ [tw], by rw [upd_same, List.map_append]; rfl, by rw [List.length_append, hl]; rfl, fun j q m ej em => ?_, fun q o e => ?_⟩
        · rcases snoc_at ej with ej | ⟨ej, eq⟩
          · have h := s15 _ _ (hts j q m ej em)
            exact nq _ _ h (nD _ _ h)
          · rw [ej, hl] at em
            obtain rfl : n = m := Option.some.inj (hn.symm.trans em)
            rw [eq]
            exact nq _ _ htw (nD _ _ htw)
        · exact nq _ _ (s15 _ _ (s14 _ _ e)) fun z => by
            rw [z, nD3] at e
            cases e
      have hl5 : ts.length = 5 := hl
      match ts, hl5 with
      | [q0, q1, q2, q3, q4], _ =>
      have dW : ∀ (n : Nat) (H : Hp) (q : Addr), SqT K H q [.str (w1 n), .str (w2 n), .str (w3 n)] → Dp K H (.ref q) (wdD n) := fun n H q h => .tup h (.cons (.str _) (.cons (.str _) (.cons (.str _) .nil)))
      have shL : SeqAt.shaped (.list [wdD 0, wdD 6, wdD 10, wdD 11, wdD 15]) = true := by decide +kernel
      refine ⟨.list [wdD 0, wdD 6, wdD 10, wdD 11, wdD 15], .list [wdD 0, wdD 6, wdD 10, wdD 11, wdD 15], .lst (SqL.of (s14 _ _ (s13 _ _ ht12))) (.cons (dW 0 _ _ ((WD.tup _ (by decide)).t _)) (.cons (dW 6 _ _ ((WD.tup _ (by decide)).t _)) (.cons (dW 10 _ _ ((WD.tup _ (by decide)).t _)) (.cons (dW 11 _ _ ((WD.tup _ (by decide)).t _)) (.cons (dW 15 _ _ ((WD.tup _ (by decide)).t _)) .nil))))), .lst (SqL.of hD3) (.cons (dW 0 _ _ (SqT.of (hts 0 q0 0 rfl rfl))) (.cons (dW 6 _ _ (SqT.of (hts 1 q1 6 rfl rfl))) (.cons (dW 10 _ _ (SqT.of (hts 2 q2 10 rfl rfl))) (.cons (dW 11 _ _ (SqT.of (hts 3 q3 11 rfl rfl))) (.cons (dW 15 _ _ (SqT.of (hts 4 q4 15 rfl rfl))) .nil))))), shL, shL, ?_⟩
      rw [show PyData.eqv (.list [wdD 0, wdD 6, wdD 10, wdD 11, wdD 15]) (.list [wdD 0, wdD 6, wdD 10, wdD 11, wdD 15]) = true by decide +kernel]
      walk_at "go"
      refine iteF ?_
      have fa0 : FA C CL H14 [] := fun _ h => by cases h
      walk_at "go"
      refine mk_bit (C := C) M (show 0 < 16 by decide) (.inl rfl) (fun _ => rfl) fun f0 G0 nf0 bf0 g0 => ?_
      have fa1 := fa0.snoc bf0 g0
      walk_at "go"
      refine mk_bit (C := C) M (show 1 < 16 by decide) (.inl rfl) (fun _ => rfl) fun f1 G1 nf1 bf1 g1 => ?_
      have fa2 := fa1.snoc bf1 g1
      walk_at "go"
      refine mk_bit (C := C) M (show 2 < 16 by decide) (.inl rfl) (fun _ => rfl) fun f2 G2 nf2 bf2 g2 => ?_
      have fa3 := fa2.snoc bf2 g2
      walk_at "go"
      refine mk_bit (C := C) M (show 3 < 16 by decide) (.inl rfl) (fun _ => rfl) fun f3 G3 nf3 bf3 g3 => ?_
      have fa4 := fa3.snoc bf3 g3
      walk_at "go"
      refine mk_bit (C := C) M (show 4 < 16 by decide) (.inl rfl) (fun _ => rfl) fun f4 G4 nf4 bf4 g4 => ?_
      have fa5 := fa4.snoc bf4 g4
      walk_at "go"
      refine mk_bit (C := C) M (show 5 < 16 by decide) (.inl rfl) (fun _ => rfl) fun f5 G5 nf5 bf5 g5 => ?_
      have fa6 := fa5.snoc bf5 g5
      walk_at "go"
      refine mk_bit (C := C) M (show 6 < 16 by decide) (.inl rfl) (fun _ => rfl) fun f6 G6 nf6 bf6 g6 => ?_
      have fa7 := fa6.snoc bf6 g6
      walk_at "go"
      refine mk_bit (C := C) M (show 7 < 16 by decide) (.inl rfl) (fun _ => rfl) fun f7 G7 nf7 bf7 g7 => ?_
      have fa8 := fa7.snoc bf7 g7
      walk_at "go"
      refine new (show 8 ≤ sizeLine by decide) fun l1 L1 nl1 hl1 e1 => ?_
      have fa8x := fa8.same e1
      walk_at "go"
      refine mk_bit (C := C) M (show 8 < 16 by decide) (.inl rfl) (fun _ => rfl) fun f8 G8 nf8 bf8 g8 => ?_
      have fa9 := fa8x.snoc bf8 g8
      walk_at "go"
      refine mk_bit (C := C) M (show 9 < 16 by decide) (.inl rfl) (fun _ => rfl) fun f9 G9 nf9 bf9 g9 => ?_
      have fa10 := fa9.snoc bf9 g9
      walk_at "go"
      refine mk_bit (C := C) M (show 10 < 16 by decide) (.inl rfl) (fun _ => rfl) fun f10 G10 nf10 bf10 g10 => ?_
      have fa11 := fa10.snoc bf10 g10
      walk_at "go"
      refine mk_bit (C := C) M (show 11 < 16 by decide) (.inl rfl) (fun _ => rfl) fun f11 G11 nf11 bf11 g11 => ?_
      have fa12 := fa11.snoc bf11 g11
      walk_at "go"
      refine mk_bit (C := C) M (show 12 < 16 by decide) (.inl rfl) (fun _ => rfl) fun f12 G12 nf12 bf12 g12 => ?_
      have fa13 := fa12.snoc bf12 g12
      walk_at "go"
      refine mk_bit (C := C) M (show 13 < 16 by decide) (.inl rfl) (fun _ => rfl) fun f13 G13 nf13 bf13 g13 => ?_
      have fa14 := fa13.snoc bf13 g13
      walk_at "go"
      refine mk_bit (C := C) M (show 14 < 16 by decide) (.inl rfl) (fun _ => rfl) fun f14 G14 nf14 bf14 g14 => ?_
      have fa15 := fa14.snoc bf14 g14
      walk_at "go"
      refine new (show 7 ≤ sizeLine by decide) fun l2 L2_ nl2 hl2 e2 => ?_
      have u1 : Same L1 L2_ := g8.trans (g9.trans (g10.trans (g11.trans (g12.trans (g13.trans (g14.trans e2))))))
      refine w_cat (u1 _ _ hl1) hl2 rfl (show 15 ≤ sizeLine by decide) fun l3 L3 nl3 hl3 e3 => ?_
      have fa15x := (fa15.same e2).same e3
      walk_at "go"
      refine mk_bit (C := C) M (show 15 < 16 by decide) (.inl rfl) (fun _ => rfl) fun f15 G15 nf15 bf15 g15 => ?_
      have fa16 := fa15x.snoc bf15 g15
      walk_at "go"
      refine new (show 1 ≤ sizeLine by decide) fun l4 L4 nl4 hl4 e4 => ?_
      refine w_cat (e4 _ _ (g15 _ _ hl3)) hl4 rfl (show 16 ≤ sizeLine by decide) fun l5 L5 nl5 hl5 e5 => ?_
      have faL : FA C CL L5 [f0, f1, f2, f3, f4, f5, f6, f7, f8, f9, f10, f11, f12, f13, f14, f15] := (fa16.same e4).same e5
      have hl5' : L5 l5 = some (.lst ([f0, f1, f2, f3, f4, f5, f6, f7, f8, f9, f10, f11, f12, f13, f14, f15].map V.ref)) := hl5
      have u0 : Same H14 L1 := g0.trans (g1.trans (g2.trans (g3.trans (g4.trans (g5.trans (g6.trans (g7.trans e1)))))))
      have u2 : Same L2_ L5 := e3.trans (g15.trans (e4.trans e5))
      have u3 : Same H7 L5 := s8.trans (s9.trans (s10.trans (s11.trans (s12.trans (s13.trans (s14.trans (u0.trans (u1.trans u2))))))))
      clear u0 u1 u2 hl5 hl4 hl3 hl2 hl1 fa0 fa1 fa2 fa3 fa4 fa5 fa6 fa7 fa8 fa8x fa9 fa10 fa11 fa12 fa13 fa14 fa15 fa15x fa16
      refine over_l (SqL.of hl5') ?_
      intro D4 nD4
      have z4 : Same L5 (upd L5 D4 (.lst [])) := fun b u e => by
        rw [upd_ne (ne_of_none e nD4)]
        exact e
      have mem16 : [f0, f1, f2, f3, f4, f5, f6, f7, f8, f9, f10, f11, f12, f13, f14, f15].length = 16 := rfl
      generalize [f0, f1, f2, f3, f4, f5, f6, f7, f8, f9, f10, f11, f12, f13, f14, f15] = fl16 at faL hl5' mem16
      refine lc_list (K := K) (a := l5) (xs := fl16.map V.ref) (fun i H' => H' D4 = some (.lst ((List.replicate i (0 : Int)).map V.int)) ∧ Same L5 H') ⟨upd_same, z4⟩ (fun i H' _ ⟨_, s⟩ => SqL.of (s _ _ hl5')) (fun i y H15 hy ⟨hD4, s15⟩ => ?_) (fun H15 ⟨hD4, s15⟩ => ?_)
      · obtain ⟨x, hx, rfl⟩ : ∃ c, fl16[i]? = some c ∧ y = .ref c := by
          rw [List.getElem?_map] at hy
          cases e : fl16[i]? with
          | none =>
            rw [e] at hy
            cases hy
          | some c =>
            rw [e] at hy
            exact ⟨c, rfl, (Option.some.inj hy).symm⟩
        have hi : i < 16 := mem16 ▸ (List.getElem?_eq_some_iff.mp hx).1
        obtain ⟨n, r, wd, d, bx⟩ := faL x (List.mem_of_getElem? hx)
        walk_at "go"
        refine ⟨rfl, ?_⟩
        unfold tYes
        refine iteT ?_
        refine w_dynP ?_
        walk_at "go"
        refine sta_at (bx.ext (ExtN.of s15)) ?_
        refine ⟨_, hD4, big_of (by rw [List.length_map, List.length_replicate]; omega), ?_, fun q o e => ?_⟩
        · rw [upd_same, List.replicate_succ', List.map_append]
          rfl
        · rw [upd_ne (ne_of_none e nD4)]
          exact s15 _ _ e
      rw [List.length_map, mem16] at hD4
      walk_at "go"
      refine new (show 1 ≤ sizeLine by decide) fun l6 L6 nl6 hl6 e6 => ?_
      walk_at "go"
      refine ⟨l6, 16, _, rfl, rfl, hl6, by decide, by decide, by decide, fun l7 nl7 => ?_⟩
      have z7 : Same L6 (upd L6 l7 (.lst ((List.replicate 16 (0 : Int)).map V.int))) := fun b u e => by
        rw [upd_ne (ne_of_none e nl7)]
        exact e
      refine ⟨.list ((List.replicate 16 (0 : Int)).map PyData.int), .list ((List.replicate 16 (0 : Int)).map PyData.int), .lst (SqL.of (z7 _ _ (e6 _ _ hD4))) (dp_ints _), .lst (SqL.of (xs := (List.replicate 16 (0 : Int)).map V.int) upd_same) (dp_ints _), by decide +kernel, by decide +kernel, ?_⟩
      rw [show PyData.eqv (.list ((List.replicate 16 (0 : Int)).map PyData.int)) (.list ((List.replicate 16 (0 : Int)).map PyData.int)) = true by decide +kernel]
      have u4 : Same H7 (upd L6 l7 (.lst ((List.replicate 16 (0 : Int)).map V.int))) := u3.trans (s15.trans (e6.trans z7))
      show ∃ k, V.bl (!true) = V.bl k ∧ _
      walk_at "go"
      refine iteF ?_
      walk_at "go"
      refine make fun k dk K1 nk hk sk => ?_
      refine ⟨k, dk, "keep", "store", "still", rfl, hk, by decide, by decide, by decide, fun K2 k2 ck2 => ⟨rfl, ?_⟩⟩
      have sk2 := fun q o (e : H7 q = some o) => ck2 q o (sk q o (u4 q o e)) (ne_of_none (u4 q o e) nk)
      walk_at "go"
      refine make fun y dy K3 ny hy sy => ?_
      have nb0 : ∀ {A : Prop}, isBit (.int 0) = false → A := fun h => by cases h
      refine ⟨y, k, cB CL 16, dy, .int 0, rfl, M.at_ (by decide), hy, _, oI 0, nb0, fun b eb hb K4 h4 ck4 => ⟨rfl, ?_⟩⟩
      have u5 : Same H7 K4 := fun q o e => ck4 q o (sy q o (sk2 q o e)) (ne_of_none (sk2 q o e) ny)
      walk_at "go"
      refine ⟨y, 16, cB CL 16, dy, _, rfl, M.at_ (by decide), h4, fun tm K5 ntm htm s5k => ?_⟩
      walk_at "go"
      refine w_mid (fun σ' H' => (∃ v3 v5 v7 v8 v9 v10 v11 v12 v13, σ' = [some (.ref a), some (.ref p), some (.ref N), v3, some (.ref S), v5, some (.ref G), v7, v8, v9, v10, v11, v12, v13]) ∧ Same H6 H') ?_ ?_
      · walk_at "go"
        refine w_in (.inl (SqL.of htm)) rfl (flat_ints _) ?_
        rw [in_mk (show (0 : Int) ∈ mkL 16 by decide +kernel)]
        refine ⟨false, rfl, iteF ?_⟩
        walk_at "go"
        refine w_in (.inl (SqL.of htm)) rfl (flat_ints _) ?_
        rw [in_mk (show (16 : Int) ∈ mkL 16 by decide +kernel)]
        refine ⟨false, rfl, iteF ?_⟩
        walk_at "go"
        exact ⟨⟨_, _, _, _, _, _, _, _, _, rfl⟩, s7.trans (u5.trans s5k)⟩
      · rintro σ' K6 ⟨⟨v3, v5, v7, v8, v9, v10, v11, v12, v13, rfl⟩, s6k⟩
        walk_at "go"
        refine ⟨p, l, cells, 12, 33, rfl, pen6.same s6k, by omega, by decide, by decide, fun d1 K7 d10 d11 pen7 k7 => ?_⟩
        walk_at "go"
        refine over_r (by show -(2 ^ 62) ≤ 8 + d1; omega) (by show 8 + d1 < 2 ^ 62; omega) ?_
        refine for_range (n := (8 + d1).toNat) (fun i σ H' => (∃ v3 v5 v7 v8 v9 v10 v11 v12 v13, σ = [some (.ref a), some (.ref p), some (.ref N), v3, some (.ref S), v5, some (.ref G), v7, v8, v9, v10, v11, v12, v13]) ∧ PenC (13 + 2 * i) p l cells H' ∧ H' N = some (.lst (nV nm)) ∧ H' G = some (.lst (bs.map V.ref)) ∧ ∃ ss : List Int, H' S = some (.lst (ss.map V.int)) ∧ BS C CL H' bs nm ss) ?_ ?_ ?_
        · exact ⟨⟨_, _, _, _, _, _, _, _, _, rfl⟩, pen7, k7 _ _ (s6k _ _ hN6) nNp, k7 _ _ (s6k _ _ hG6) nGp, ss, k7 _ _ (s6k _ _ hS6) nSp, bs6.map fun b => (b.ext (ExtN.of s6k)).kp (pen6.same s6k) k7⟩
        · rintro i σ K8 hi ⟨⟨v3, v5, v7, v8, v9, v10, v11, v12, v13, rfl⟩, pen8, hN8, hG8, ss8, hS8, bs8⟩
          have hi40 : i ≤ 41 := by omega
          have lb : bs.length = nm.length := bs8.l1
          walk_at "go"
          refine ⟨G, _, rfl, .inl (SqL.of hG8), ?_⟩
          walk_at "go"
          refine ⟨p, l, cells, 13 + 2 * i, _, rfl, pen8, by omega, by rw [List.length_map]; omega, by rw [List.length_map]; omega, fun at_ K9 a0 a1 pen9 k9 => ?_⟩
          obtain ⟨j, rfl⟩ := Int.eq_ofNat_of_zero_le a0
          rw [List.length_map] at a1
          have hN9 := k9 _ _ hN8 nNp
          have hG9 := k9 _ _ hG8 nGp
          have hS9 := k9 _ _ hS8 nSp
          have bs9 := bs8.map fun b => b.kp pen8 k9
          obtain ⟨x, ej⟩ : ∃ x, bs[j]? = some x := ⟨_, List.getElem?_eq_getElem (by omega)⟩
          obtain ⟨n, s, en, es, hn16, bx⟩ := bs9.some_at ej
          walk_at "go"
          refine w_ixL (SqL.of hG9) (v := .ref x) (atI_nat (by rw [List.getElem?_map, ej]; rfl)) ?_
          walk_at "go"
          refine w_ixL (SqL.of hN9) (atI_nat (nV_at en)) ?_
          walk_at "go"
          refine ⟨n, rfl, hn16, fun tw K10 ntw htw s10 => ?_⟩
          walk_at "go"
          refine w_ixL (SqL.of (s10 _ _ hS9)) (v := .int s) (atI_nat (by rw [List.getElem?_map, es]; rfl)) ?_
          walk_at "go"
          have pen10 := pen9.same s10
          have bs10 := bs9.map fun b => b.ext (ExtN.of s10)
          refine ⟨p, l, cells, 13 + 2 * i + 1, x, tw, n, _, _, _, s, rfl, pen10, by omega, bx.ext (ExtN.of s10), htw, fun s' K11 b11 pen11 k11 => ?_⟩
          obtain ⟨Cx, dxx, fsx, _, hax, _⟩ := (bx.ext (ExtN.of s10)).ins
          have nx : ∀ (q : Addr) (xs : List V), K10 q = some (.lst xs) → q ≠ x := fun q xs e z => by
            rw [z, hax] at e
            cases e
          have hS11 := k11 _ _ (s10 _ _ hS9) nSp (nx _ _ (s10 _ _ hS9))
          have hN11 := k11 _ _ (s10 _ _ hN9) nNp (nx _ _ (s10 _ _ hN9))
          have hG11 := k11 _ _ (s10 _ _ hG9) nGp (nx _ _ (s10 _ _ hG9))
          have bs11 := bs10.done ej en b11 pen10 k11
          walk_at "go"
          have ljs : j < (ss8.map V.int).length := by
            rw [List.length_map, bs8.l2]
            omega
          refine w_setG hS11 (ixN_own ljs) (List.map_set ..).symm fun K12 hS12 e12 => ?_
          have kp12 : Kp S K11 K12 := fun q o e ne => (e12 q ne).trans e
          have pen12 : PenC (13 + 2 * i + 1 + 1) p l cells K12 := by
            obtain ⟨q1, q2, x, y, z, q3⟩ := pen11
            exact ⟨q1, (e12 l nSl.symm).trans q2, x, y, z, (e12 p nSp.symm).trans q3⟩
          have hN12 := kp12 _ _ hN11 nSN.symm
          have hG12 := kp12 _ _ hG11 nGS
          have bs12 := bs11.map fun b => b.kpL hS11 kp12
          have l12 := bs12.l2
          generalize ss8.set j s' = s12 at hS12 bs12 l12
          walk_at "go"
          obtain ⟨s'', es''⟩ : ∃ s'', s12[j]? = some s'' := ⟨_, List.getElem?_eq_getElem (by omega)⟩
          refine w_ixL (SqL.of hS12) (v := .int s'') (atI_nat (by rw [List.getElem?_map, es'']; rfl)) ?_
          walk_at "go"
          refine ⟨rfl, _, rfl, ?_⟩
          refine ite2 (fun h => absurd (of_decide_eq_true h) nofun) fun _ => ?_
          walk_at "go"
          refine w_izip ?_
          walk_at "go"
          refine ⟨G, S, _, _, rfl, .inl ⟨SqL.of hG12, SqL.of hS12, ?_⟩⟩
          refine for_zip (K := K) (xs := bs.map V.ref) (ys := s12.map V.int) (by rw [List.length_map, List.length_map]; omega) (fun i σ H' => (∃ v3 v5 v7 v8 v9 v10 v11 v12 v13, σ = [some (.ref a), some (.ref p), some (.ref N), v3, some (.ref S), v5, some (.ref G), v7, v8, v9, v10, v11, v12, v13]) ∧ Same K12 H') ⟨⟨_, _, _, _, _, _, _, _, _, rfl⟩, fun _ _ h => h⟩ (fun i σ H' ⟨_, s⟩ => ⟨SqL.of (s _ _ hG12), SqL.of (s _ _ hS12)⟩) ?_ ?_
          · rintro u x2 y2 Tp σ J1 J2 hx hy ⟨⟨v3, v5, v7, v8, v9, v10, v11, v12, v13, rfl⟩, t1⟩ nT hT t2
            obtain ⟨x2, hxa, rfl⟩ : ∃ c, bs[u]? = some c ∧ x2 = .ref c := by
              rw [List.getElem?_map] at hx
              cases e : bs[u]? with
              | none =>
                rw [e] at hx
                cases hx
              | some c =>
                rw [e] at hx
                exact ⟨c, rfl, (Option.some.inj hx).symm⟩
            obtain ⟨n2, z2, en2, ez2, hn2, bx2⟩ := bs12.some_at hxa
            obtain rfl : y2 = .int z2 := by
              rw [List.getElem?_map, ez2] at hy
              exact (Option.some.inj hy).symm
            have t12 := t1.trans t2
            have bx2' := bx2.ext (ExtN.of t12)
            have st2 : St4 z2 := by
              obtain ⟨_, _, _, _, _, _, dm, _⟩ := bx2
              exact dm.st
            obtain ⟨y1, y2, y3, y4⟩ := pr_show z2 st2
            refine ⟨Tp, _, rfl, SqT.of hT, rfl, _, _, rfl, _, _, rfl, rfl, ?_⟩
            walk_at "go"
            refine w_dynP ?_
            walk_at "go"
            refine now_at bx2' ?_
            walk_at "go"
            refine w_dynP ?_
            walk_at "go"
            refine sta_at bx2' ?_
            walk_at "go"
            refine new (show 2 ≤ sizeLine by decide) fun q3 J3 nq3 hq3 t3 => ?_
            walk_at "go"
            refine ⟨_, prD z2, rfl, .tup (SqT.of hq3) (.cons (.int _) (.cons (.int _) .nil)), y1, y2, y3, y4, ?_⟩
            walk_at "go"
            rw [← rd_bit z2 st2]
            refine new (show 2 ≤ sizeLine by decide) fun q4 J4 nq4 hq4 t4 => ?_
            walk_at "go"
            refine ⟨_, prD z2, rfl, .tup (SqT.of hq4) (.cons (.int _) (.cons (.int _) .nil)), y1, y2, y3, y4, ?_⟩
            generalize (prD z2).shown = zz
            walk_at "go"
            refine iteNe ?_
            walk_at "go"
            exact ⟨⟨_, _, _, _, _, _, _, _, _, rfl⟩, t12.trans (t3.trans t4)⟩
          · rintro σ J1 ⟨⟨v3, v5, v7, v8, v9, v10, v11, v12, v13, rfl⟩, t1⟩
            have ei : 13 + 2 * (i + 1) = 13 + 2 * i + 1 + 1 := by omega
            exact ⟨⟨_, _, _, _, _, _, _, _, _, rfl⟩, ei ▸ pen12.same t1, t1 _ _ hN12, t1 _ _ hG12, s12, t1 _ _ hS12, bs12.map fun b => b.ext (ExtN.of t1)⟩
        · rintro σ K8 ⟨⟨v3, v5, v7, v8, v9, v10, v11, v12, v13, rfl⟩, pen8, hN8, hG8, ss8, hS8, bs8⟩
          walk_at "go"
          exact q K8
end
end Law

set_option Elab.async false
set_option linter.all false
set_option maxRecDepth 100000
set_option maxHeartbeats 4000000
namespace Law
open PySem PySem.Spec PySem.Calls PyProof.Rows L2 KG
local macro_rules | `(tactic| walk_at "1") => `(tactic| first
  | (with_reducible refine w_var rfl ?_) | (with_reducible refine w_c ?_) | (with_reducible refine w_seq ?_) | (with_reducible refine w_asg ?_) | (with_reducible refine w_gname ?_) | (with_reducible refine w_op ?_) | (with_reducible refine w_un ?_)
  | (with_reducible refine w_add ?_) | (with_reducible refine w_sub ?_) | ((with_reducible refine' w_mod ?mo ?_); (case mo => first | assumption | decide | omega)) | (with_reducible refine w_and ?_) | (with_reducible refine w_or ?_) | (with_reducible refine w_xor ?_)
  | (with_reducible refine w_gt ?_) | (with_reducible refine w_lt ?_) | (with_reducible refine w_ge ?_) | (with_reducible refine w_le ?_) | ((with_reducible refine' w_eq ?sc ?_); (case sc => rfl)) | ((with_reducible refine' w_ne ?sc ?_); (case sc => rfl))
  | (with_reducible refine w_ret ?_) | (with_reducible refine w_next ?_) | (with_reducible refine w_ifs ?_) | (with_reducible refine w_ifx ?_) | (with_reducible refine w_test ?_) | (with_reducible refine w_tB ?_) | (with_reducible refine w_bl ?_)
  | ((with_reducible refine' w_ixL ?ixh ?ixa ?_); (case ixh => first | exact SqL.of (by assumption)); (case ixa => first | rfl | skip)) | ((with_reducible refine' w_ixT ?ixh ?ixa ?_); (case ixh => first | exact SqT.of (by assumption)); (case ixa => first | rfl | skip))
  | ((with_reducible refine' w_fld ?_)) | ((with_reducible refine' fld ?fh ?fc ?fn ?fl ?_); (case fh => assumption); (case fc => assumption); (case fn => assumption); (case fl => rfl)) | (with_reducible refine w_sfld ?_)
  | (with_reducible refine Or.inl ⟨_, rfl, ?_⟩) | (with_reducible refine w_gsub ?_) | (with_reducible refine w_andV ?_) | (with_reducible refine w_orV ?_)
  | (with_reducible refine w_nil ?_) | (with_reducible refine w_cons ?_) | (with_reducible refine w_tup ?_) | (with_reducible refine w_lst ?_) | (with_reducible refine w_and2 ?_) | (with_reducible refine w_or2 ?_) | (with_reducible refine w_not ?_) | (with_reducible refine w_cb ?_) | (with_reducible refine w_call ?_) | (with_reducible refine w_par ?_) | (with_reducible refine w_pnil ?_) | (with_reducible refine w_pcons ?_) | (with_reducible refine w_dput ?_) | (with_reducible refine w_dget ?_) | (with_reducible refine w_for ?_) | (with_reducible refine w_itup ?_) | (with_reducible refine w_ilist ?_) | (with_reducible refine w_irng ?_) | (with_reducible refine w_meth ?_) | (with_reducible refine w_make ?_) | (with_reducible refine w_makeK ?_) | (with_reducible refine w_methK ?_) | ((with_reducible refine' mth ?mh ?ml ?_); (case mh => assumption); (case ml => rfl)) | (with_reducible refine w_drop ?_))
local macro_rules | `(tactic| walk_at "go") => `(tactic| ((repeat (walk_at "1")); try dsimp only))
local macro_rules | `(tactic| walk_at "1") => `(tactic| first
  | (with_reducible refine w_notV ?_) | (with_reducible refine w_callK ?_) | (with_reducible refine w_lc ?_) | (with_reducible refine w_chain ?_) | (with_reducible refine w_neg ?_) | ((with_reducible refine' w_shr ?mo ?_); (case mo => first | assumption | omega)))
theorem ktup {K : PySem.W.Frag} {a : Addr} {dd : Option Addr} {its : Array Value} {n : Nat} {sl : Array (Option Value)} {xs : List V} (h : K.lookup a = some ⟨.type "tuple", dd, .seq its n, sl⟩) (z : Nat.ble its.size 100 = true) (r : Vals xs its.toList) : KTup K a xs :=
  ⟨_, its, n, h, rfl, rfl, Nat.le_trans (Nat.le_of_ble_eq_true z) (by decide), r⟩
theorem kit_own {K : PySem.W.Frag} {t : Value} {C : Addr} {b : Bool} (hd : PySem.W.hasDictIn K C = true) (ty : PySem.W.typeIn K (.ref C) = some (.type "type")) (ne : (t == Value.ref C) = false) (s : PySem.W.subIn K t (.ref C) = some b) : PySem.W.kitOne K t (.ref C) = some b := by
  obtain ⟨cd, hc, _⟩ := PySem.W.any_some hd
  have e2 : ((PySem.W.clsIn K C).isSome && PySem.W.typeIn K (.ref C) == some (.type "type")) = true := by rw [hc, ty] <;> rfl
  unfold PySem.W.kitOne
  rw [ne, if_neg Bool.false_ne_true]
  show (if ((PySem.W.clsIn K C).isSome && PySem.W.typeIn K (.ref C) == some (.type "type")) = true then PySem.W.subIn K t (.ref C) else none) = some b
  rw [if_pos e2]
  exact s
theorem kit_same {K : PySem.W.Frag} {t : Value} : PySem.W.kitOne K t t = some true := if_pos (beq_self_eq_true t)
theorem kit_ve {K : PySem.W.Frag} {a : Addr} (s : PySem.W.subIn K (.ref a) (.type "ValueError") = some true) : PySem.W.kitOne K (.ref a) (.type "ValueError") = some true := by
  unfold PySem.W.kitOne
  rw [if_neg (by simp)]
  show (if PySem.W.kitMeta "ValueError" = true then PySem.W.subIn K (.ref a) (.type "ValueError") else none) = some true
  rw [if_pos (by decide +kernel)]
  exact s
theorem sup_up {K : PySem.W.Frag} {E BE N : Addr} {nm q : Str} {bs bm : List Value} {hdct : Bool} {sn : List Str} {sub : List Value} {ab : Bool} {col : Option Bool} {dd : Option Addr} {k0 k1 k2 k3 k5 : Option Value} {newId : String} {cdB : ClassData}
    (cl : K.lookup E = some (excClassObj nm q E N bs bm hdct sn sub ab col dd k0 k1 k2 k3 k5 newId)) (cB : PySem.W.clsIn K BE = some cdB) (mB : bm = cdB.mro) (f : PySem.W.findIn K (.ref BE) "__init__" = some (some (.builtin "ValueError.__init__"))) : PySem.W.ks_superIn K E E "__init__" = some (some (.builtin "ValueError.__init__")) := by
  have hcl : PySem.W.clsIn K E = some { name := nm, bases := bs, mro := .ref E :: bm, ns := N, qualname := q, hasDict := hdct, slotNames := sn, subclasses := sub, abstract := ab, collection := col, hasDel := false } := by
    unfold PySem.W.clsIn
    rw [cl] <;> rfl
  unfold PySem.W.ks_superIn
  rw [hcl, Option.bind_some]
  show PySem.W.alongIn K "__init__" (((Value.ref E :: bm).dropWhile (· != .ref E)).drop 1) = _
  have e : ((Value.ref E :: bm).dropWhile (· != .ref E)).drop 1 = bm := by simp [List.dropWhile_cons]
  rw [e, mB]
  unfold PySem.W.findIn at f
  dsimp only at f
  unfold PySem.W.clsIn at cB
  cases z : K.lookup BE with
  | none =>
    rw [z] at cB
    cases cB
  | some o =>
    rw [z] at cB f
    obtain ⟨oc, od, dt, osl⟩ := o
    cases dt with
    | cls cd =>
      cases cB
      exact f
    | _ => cases cB
theorem errX2 : ErrX s_InvalidWord___init__ "InvalidWord.__init__" "value" "value" :=
  ⟨_, _, _, _, _, _, _, _, _, _, _, _, rfl, { bind := fun _ _ _ _ _ _ _ _ _ => rfl, ev := ⟨_, fun _ => rfl⟩, par := rfl, k1 := by decide +kernel, k2 := by decide +kernel, k3 := by decide +kernel, k4 := by decide +kernel, npv := by decide, npd := by decide, cell := by decide +kernel, co := by decide +kernel, gen := by decide +kernel, kind := by decide +kernel }⟩
theorem rec_at {K : PySem.W.Frag} {p g : Addr} {T : String} {d : Option Addr} {vs : Array Value} {ss : Array (Option Value)} {rs : List Value} (h : K.lookup p = some ⟨.type T, d, .fields vs, ss⟩) (v : vs.toList = .ref g :: rs) : PySem.W.recIn K p T = some (.ref g :: rs) := by
  unfold PySem.W.recIn
  rw [h]
  show (if (T == T) = true then some vs.toList else none) = _
  rw [beq_self_eq_true, if_pos rfl, v]
theorem binds_seq {K : PySem.W.Frag} {fd : FuncData} {ps : List Str} {ds its : List Value} {T : Addr} {o : Obj} {n : Nat} (lT : K.lookup T = some o) (dT : o.data = .seq its.toArray n)
    (h : ∀ us : List Value, (us ++ ds).length = ps.length → ∃ k, bindArgs fd ⟨us, []⟩ = seqItems? (.ref T) >>= k ∧ k (some its.toArray) = pure (ps.zip (us ++ ds))) : Binds K fd ps ds := fun s us kin hl M A E Q q => by
  obtain ⟨k, h1, h2⟩ := h us hl
  rw [h1]
  exact wpAny_bind (wpAny_seqItems (kin _ _ lT) dT (by rw [h2]; exact wpAny_pure q))
theorem kbn_seq {K : PySem.W.Frag} {fd : FuncData} {its : List Value} {T : Addr} {o : Obj} {n : Nat} (lT : K.lookup T = some o) (dT : o.data = .seq its.toArray n)
    (h : ∀ x v k : Value, ∃ kk, bindArgs fd ⟨[x], [(("value" : Str), v), (("kind" : Str), k)]⟩ = seqItems? (.ref T) >>= kk ∧ kk (some its.toArray) = pure [(("self" : Str), x), (("kind" : Str), k), (("value" : Str), v)]) :
    KBn K fd ["self", "kind", "value"] 1 ["value", "kind"] (fun us ws => us ++ ws.reverse) (fun us ws => us ++ ws.reverse) where
  to := fun s us ws kin h1 h2 => match us, ws, h1, h2 with
    | [x], [v, k], _, _ => fun M A E Q q => by
      obtain ⟨kk, e1, e2⟩ := h x v k
      show wpAny M A (bindArgs fd ⟨[x], [(("value" : Str), v), (("kind" : Str), k)]⟩) Q E s
      rw [e1]
      exact wpAny_bind (wpAny_seqItems (kin _ _ lT) dT (by rw [e2]; exact wpAny_pure q))
  rel := fun {vs us zs ws} a b => a.append (by
    have : ∀ {x : List V} {y : List Value}, Vals x y → Vals x.reverse y.reverse := fun {x y} h => by
      induction h with
      | nil => exact .nil
      | cons r _ ih =>
        rw [List.reverse_cons, List.reverse_cons]
        exact ih.append (.cons r .nil)
    exact this b)
theorem kbn_seq1 {K : PySem.W.Frag} {fd : FuncData} {its : List Value} {T : Addr} {o : Obj} {n : Nat} (lT : K.lookup T = some o) (dT : o.data = .seq its.toArray n)
    (h : ∀ x v : Value, ∃ kk, bindArgs fd ⟨[x], [(("value" : Str), v)]⟩ = seqItems? (.ref T) >>= kk ∧ kk (some its.toArray) = pure [(("self" : Str), x), (("value" : Str), v)]) :
    KBn K fd ["self", "value"] 1 ["value"] (fun us ws => us ++ ws) (fun us ws => us ++ ws) where
  to := fun s us ws kin h1 h2 => match us, ws, h1, h2 with
    | [x], [v], _, _ => fun M A E Q q => by
      obtain ⟨kk, e1, e2⟩ := h x v
      show wpAny M A (bindArgs fd ⟨[x], [(("value" : Str), v)]⟩) Q E s
      rw [e1]
      exact wpAny_bind (wpAny_seqItems (kin _ _ lT) dT (by rw [e2]; exact wpAny_pure q))
  rel := fun a b => a.append b
theorem bind_bit {K : PySem.W.Frag} {f : Addr} {fd : FuncData} (F : FunD K "__init__" "Bit.__init__" (defArgs s_Bit___init__) (defBody s_Bit___init__) (defScope s_Bit___init__) [.int 0] [] f fd) : Binds K fd ["self", "value"] [] := by
  have hd : ([.int 0] : List V) ≠ [] := by simp
  have z : ∃ ds, Vals (([.int 0] : List V).drop 1) ds ∧ Binds K fd ["self", "value"] ds := by
    refine F.binds1 2 1 hd rfl ?_
    intro T kV doc pm an cdv ct us its h1 h2
    match us, its, h1, h2 with
    | [_, _], [_], _, _ => exact ⟨_, rfl, rfl⟩
  obtain ⟨ds, v, b⟩ := z
  cases v
  exact b
theorem kb_wB {K : PySem.W.Frag} {kV doc pm : Value} {an : Option Addr} {cdv ct : Value} : KBn K (PySem.W.fnOf "write" "Bit.write" (defArgs s_Bit_write) (defBody s_Bit_write) (defScope s_Bit_write) .none kV doc pm an cdv ct) ["self", "bit"] 1 ["bit"] (fun us ws => us ++ ws) (fun us ws => us ++ ws) :=
  ⟨fun s us ws _ h1 h2 => match us, ws, h1, h2 with | [_], [_], _, _ => .of_eq rfl, fun a b => a.append b⟩
theorem kb_wC {K : PySem.W.Frag} {kV doc pm : Value} {an : Option Addr} {cdv ct : Value} : KBn K (PySem.W.fnOf "write" "ClearedBit.write" (defArgs s_ClearedBit_write) (defBody s_ClearedBit_write) (defScope s_ClearedBit_write) .none kV doc pm an cdv ct) ["self", "bit"] 1 ["bit"] (fun us ws => us ++ ws) (fun us ws => us ++ ws) :=
  ⟨fun s us ws _ h1 h2 => match us, ws, h1, h2 with | [_], [_], _, _ => .of_eq rfl, fun a b => a.append b⟩
theorem kb_wZ {K : PySem.W.Frag} {kV doc pm : Value} {an : Option Addr} {cdv ct : Value} : KBn K (PySem.W.fnOf "write" "ZeroClearedBit.write" (defArgs s_ZeroClearedBit_write) (defBody s_ZeroClearedBit_write) (defScope s_ZeroClearedBit_write) .none kV doc pm an cdv ct) ["self", "bit"] 1 ["bit"] (fun us ws => us ++ ws) (fun us ws => us ++ ws) :=
  ⟨fun s us ws _ h1 h2 => match us, ws, h1, h2 with | [_], [_], _, _ => .of_eq rfl, fun a b => a.append b⟩
theorem kb_wS {K : PySem.W.Frag} {kV doc pm : Value} {an : Option Addr} {cdv ct : Value} : KBn K (PySem.W.fnOf "write" "SetBit.write" (defArgs s_SetBit_write) (defBody s_SetBit_write) (defScope s_SetBit_write) .none kV doc pm an cdv ct) ["self", "bit"] 1 ["bit"] (fun us ws => us ++ ws) (fun us ws => us ++ ws) :=
  ⟨fun s us ws _ h1 h2 => match us, ws, h1, h2 with | [_], [_], _, _ => .of_eq rfl, fun a b => a.append b⟩
theorem kb_wF {K : PySem.W.Frag} {kV doc pm : Value} {an : Option Addr} {cdv ct : Value} : KBn K (PySem.W.fnOf "write" "FlippedBit.write" (defArgs s_FlippedBit_write) (defBody s_FlippedBit_write) (defScope s_FlippedBit_write) .none kV doc pm an cdv ct) ["self", "bit"] 1 ["bit"] (fun us ws => us ++ ws) (fun us ws => us ++ ws) :=
  ⟨fun s us ws _ h1 h2 => match us, ws, h1, h2 with | [_], [_], _, _ => .of_eq rfl, fun a b => a.append b⟩
theorem kb_wO {K : PySem.W.Frag} {kV doc pm : Value} {an : Option Addr} {cdv ct : Value} : KBn K (PySem.W.fnOf "write" "OnceBit.write" (defArgs s_OnceBit_write) (defBody s_OnceBit_write) (defScope s_OnceBit_write) .none kV doc pm an cdv ct) ["self", "bit"] 1 ["bit"] (fun us ws => us ++ ws) (fun us ws => us ++ ws) :=
  ⟨fun s us ws _ h1 h2 => match us, ws, h1, h2 with | [_], [_], _, _ => .of_eq rfl, fun a b => a.append b⟩
theorem kb_wD {K : PySem.W.Frag} {kV doc pm : Value} {an : Option Addr} {cdv ct : Value} : KBn K (PySem.W.fnOf "write" "DeafBit.write" (defArgs s_DeafBit_write) (defBody s_DeafBit_write) (defScope s_DeafBit_write) .none kV doc pm an cdv ct) ["self", "bit"] 1 ["bit"] (fun us ws => us ++ ws) (fun us ws => us ++ ws) :=
  ⟨fun s us ws _ h1 h2 => match us, ws, h1, h2 with | [_], [_], _, _ => .of_eq rfl, fun a b => a.append b⟩
theorem kb_wK {K : PySem.W.Frag} {kV doc pm : Value} {an : Option Addr} {cdv ct : Value} : KBn K (PySem.W.fnOf "write" "KindBit.write" (defArgs s_KindBit_write) (defBody s_KindBit_write) (defScope s_KindBit_write) .none kV doc pm an cdv ct) ["self", "bit"] 1 ["bit"] (fun us ws => us ++ ws) (fun us ws => us ++ ws) :=
  ⟨fun s us ws _ h1 h2 => match us, ws, h1, h2 with | [_], [_], _, _ => .of_eq rfl, fun a b => a.append b⟩
theorem bi_of {mg : Str → Option Value} (B : B1 mg) : Bi mg := ⟨B.g_int, B.g_len, B.g_abs, B.g_list, B.g_repr, B.g_range, B.g_str⟩
theorem all {l : PySem.W.OpenLaw} {w : World} {K : PySem.W.Frag} {h : Heap} {mg : Str → Option Value} {fa : Addr} (X : K.In h) (G : h.Ns mainGlobals mg) (hfa : mg "law" = some (.ref fa))
    {C aW aI aR bW aD BE : Addr} {mc : Value} {B0 B1 B2 B3 B4 B5 B6 B7 B8 B9 B10 B11 B12 B13 B14 B15 B16 : Addr} {tS : Tok} {u2 : Tok} {u3 : Tok} {ddt1 : Option Addr} {nnt1 : Nat} {sst1 : Array (Option Value)} {u5 : Tok} {u6 : Tok} {u7 : Tok} {u8 : Tok} {u9 : Tok} {u10 : Tok} {u11 : Tok} {ddt4 : Option Addr} {nnt4 : Nat} {sst4 : Array (Option Value)} {u13 : Tok} {u14 : Tok} {u15 : Tok} {u16 : Tok} {ddt12 : Option Addr} {nnt12 : Nat} {sst12 : Array (Option Value)} {esW esI : Array DictEntry} {nW_ nI_ : Nat} {w_store w_storea w_storeb : Addr} {ddt17 : Option Addr} {nnt17 : Nat} {sst17 : Array (Option Value)} {u19 : Tok} {u20 : Tok} {ddt18 : Option Addr} {nnt18 : Nat} {sst18 : Array (Option Value)} {u22 : Tok} {u23 : Tok} {ddt21 : Option Addr} {nnt21 : Nat} {sst21 : Array (Option Value)} {w_clear1 w_clear1a w_clear1b : Addr} {ddt24 : Option Addr} {nnt24 : Nat} {sst24 : Array (Option Value)} {u26 : Tok} {u27 : Tok} {ddt25 : Option Addr} {nnt25 : Nat} {sst25 : Array (Option Value)} {u29 : Tok} {u30 : Tok} {ddt28 : Option Addr} {nnt28 : Nat} {sst28 : Array (Option Value)} {w_clear0 w_clear0a w_clear0b : Addr} {ddt31 : Option Addr} {nnt31 : Nat} {sst31 : Array (Option Value)} {u33 : Tok} {u34 : Tok} {ddt32 : Option Addr} {nnt32 : Nat} {sst32 : Array (Option Value)} {u36 : Tok} {u37 : Tok} {ddt35 : Option Addr} {nnt35 : Nat} {sst35 : Array (Option Value)} {w_set1 w_set1a w_set1b : Addr} {ddt38 : Option Addr} {nnt38 : Nat} {sst38 : Array (Option Value)} {u40 : Tok} {u41 : Tok} {ddt39 : Option Addr} {nnt39 : Nat} {sst39 : Array (Option Value)} {u43 : Tok} {u44 : Tok} {ddt42 : Option Addr} {nnt42 : Nat} {sst42 : Array (Option Value)} {w_flip1 w_flip1a w_flip1b : Addr} {ddt45 : Option Addr} {nnt45 : Nat} {sst45 : Array (Option Value)} {u47 : Tok} {u48 : Tok} {ddt46 : Option Addr} {nnt46 : Nat} {sst46 : Array (Option Value)} {u50 : Tok} {u51 : Tok} {ddt49 : Option Addr} {nnt49 : Nat} {sst49 : Array (Option Value)} {w_once w_oncea w_onceb : Addr} {ddt52 : Option Addr} {nnt52 : Nat} {sst52 : Array (Option Value)} {u54 : Tok} {u55 : Tok} {ddt53 : Option Addr} {nnt53 : Nat} {sst53 : Array (Option Value)} {u57 : Tok} {u58 : Tok} {ddt56 : Option Addr} {nnt56 : Nat} {sst56 : Array (Option Value)} {w_none w_nonea w_noneb : Addr} {ddt59 : Option Addr} {nnt59 : Nat} {sst59 : Array (Option Value)} {u61 : Tok} {u62 : Tok} {ddt60 : Option Addr} {nnt60 : Nat} {sst60 : Array (Option Value)} {u64 : Tok} {u65 : Tok} {ddt63 : Option Addr} {nnt63 : Nat} {sst63 : Array (Option Value)} {i_still : Addr} {ddt66 : Option Addr} {nnt66 : Nat} {sst66 : Array (Option Value)} {i_raise : Addr} {u68 : Tok} {ddt67 : Option Addr} {nnt67 : Nat} {sst67 : Array (Option Value)} {i_end : Addr} {u70 : Tok} {ddt69 : Option Addr} {nnt69 : Nat} {sst69 : Array (Option Value)} {i_drift : Addr} {u72 : Tok} {u73 : Tok} {ddt71 : Option Addr} {nnt71 : Nat} {sst71 : Array (Option Value)} {m_Kind_init : Addr} {odv74 anv74 : Option Addr} {slv74 : Array (Option Value)} {ocv74 kVv74 dcv74 pmv74 cdv74 ctv74 : Value} {m_Kind_after_read : Addr} {odv75 anv75 : Option Addr} {slv75 : Array (Option Value)} {ocv75 kVv75 dcv75 pmv75 cdv75 ctv75 : Value} {m_Kind_after_write : Addr} {odv76 anv76 : Option Addr} {slv76 : Array (Option Value)} {ocv76 kVv76 dcv76 pmv76 cdv76 ctv76 : Value} {m_Kind_unguarded : Addr} {odv77 anv77 : Option Addr} {slv77 : Array (Option Value)} {ocv77 kVv77 dcv77 pmv77 cdv77 ctv77 : Value} {m_Kind_deeds : Addr} {odv78 anv78 : Option Addr} {slv78 : Array (Option Value)} {ocv78 kVv78 dcv78 pmv78 cdv78 ctv78 : Value} {m_Kind_eq : Addr} {odv79 anv79 : Option Addr} {slv79 : Array (Option Value)} {ocv79 kVv79 dcv79 pmv79 cdv79 ctv79 : Value} {E2 : Addr} {cdB : ClassData} {nmE2 qE2 : Str} {NE2 : Addr} {bsE2 bmE2 : List Value} {snE2 : List Str} {subE2 : List Value} {abE2 : Bool} {colE2 : Option Bool} {ddE2 : Option Addr} {j0_2 j1_2 j2_2 j3_2 j5_2 : Option Value} {fI2 cda2 cc2 : Addr} {ocE2 kVE2 dcE2 pmE2 ctE2 : Value} {anE2 odE2 : Option Addr} {slE2 : Array (Option Value)} {ccl2 ccv2 : Value} {cdd2 cld2 : Option Addr} {vsE2 : Array Value} {ccs2 csl2 : Array (Option Value)} {fileE2 : Str} {tfE2 : Tok} {frB : Addr} {odv80 anv80 : Option Addr} {slv80 : Array (Option Value)} {ocv80 kVv80 dcv80 pmv80 cdv80 ctv80 : Value} {frK : Addr} {odv81 anv81 : Option Addr} {slv81 : Array (Option Value)} {ocv81 kVv81 dcv81 pmv81 cdv81 ctv81 : Value} {fwB : Addr} {odv82 anv82 : Option Addr} {slv82 : Array (Option Value)} {ocv82 kVv82 dcv82 pmv82 cdv82 ctv82 : Value} {fwC : Addr} {odv83 anv83 : Option Addr} {slv83 : Array (Option Value)} {ocv83 kVv83 dcv83 pmv83 cdv83 ctv83 : Value} {fwZ : Addr} {odv84 anv84 : Option Addr} {slv84 : Array (Option Value)} {ocv84 kVv84 dcv84 pmv84 cdv84 ctv84 : Value} {fwS : Addr} {odv85 anv85 : Option Addr} {slv85 : Array (Option Value)} {ocv85 kVv85 dcv85 pmv85 cdv85 ctv85 : Value} {fwF : Addr} {odv86 anv86 : Option Addr} {slv86 : Array (Option Value)} {ocv86 kVv86 dcv86 pmv86 cdv86 ctv86 : Value} {fwO : Addr} {odv87 anv87 : Option Addr} {slv87 : Array (Option Value)} {ocv87 kVv87 dcv87 pmv87 cdv87 ctv87 : Value} {fwD : Addr} {odv88 anv88 : Option Addr} {slv88 : Array (Option Value)} {ocv88 kVv88 dcv88 pmv88 cdv88 ctv88 : Value} {fwK : Addr} {odv89 anv89 : Option Addr} {slv89 : Array (Option Value)} {ocv89 kVv89 dcv89 pmv89 cdv89 ctv89 : Value} {fdB : Addr} {odv90 anv90 : Option Addr} {slv90 : Array (Option Value)} {ocv90 kVv90 dcv90 pmv90 cdv90 ctv90 : Value} {fdK : Addr} {odv91 anv91 : Option Addr} {slv91 : Array (Option Value)} {ocv91 kVv91 dcv91 pmv91 cdv91 ctv91 : Value} {frT cdarT ccrT : Addr} {ocrT kVrT dcrT pmrT ctrT : Value} {anrT odrT : Option Addr} {slrT : Array (Option Value)} {cclrT ccvrT : Value} {cddrT cldrT : Option Addr} {vsrT : Array Value} {ccsrT cslrT : Array (Option Value)} {filerT : Str} {tfrT : Tok} {cdrT : ClassData} {fdR cdadR ccdR : Addr} {ocdR kVdR dcdR pmdR ctdR : Value} {andR oddR : Option Addr} {sldR : Array (Option Value)} {ccldR ccvdR : Value} {cdddR clddR : Option Addr} {vsdR : Array Value} {ccsdR csldR : Array (Option Value)} {filedR : Str} {tfdR : Tok} {cddR : ClassData} {fdE cdadE ccdE : Addr} {ocdE kVdE dcdE pmdE ctdE : Value} {andE oddE : Option Addr} {sldE : Array (Option Value)} {ccldE ccvdE : Value} {cdddE clddE : Option Addr} {vsdE : Array Value} {ccsdE csldE : Array (Option Value)} {filedE : Str} {tfdE : Tok} {cddE : ClassData} {TDkI : Addr} {fkI cdakI cckI : Addr} {ockI kVkI dckI pmkI ctkI : Value} {ankI odkI : Option Addr} {slkI : Array (Option Value)} {cclkI ccvkI : Value} {cddkI cldkI : Option Addr} {vskI : Array Value} {ccskI cslkI : Array (Option Value)} {filekI : Str} {tfkI : Tok} {cdkI : ClassData} {fbI : Addr} {odbI anbI : Option Addr} {slbI : Array (Option Value)} {ocbI kVbI dcbI pmbI cdbI ctbI : Value} {TDbI : Addr} {dTbI : Option Addr} {sTbI : Array (Option Value)} {oTbI : Value} {nTbI : Nat} {tubI : Tok} {dTkI : Option Addr} {sTkI : Array (Option Value)} {oTkI : Value} {nTkI : Nat} {tukI : Tok} {pN gN : Addr} {ddN : Option Addr} {vsN : Array Value} {ssN : Array (Option Value)} {rsN : List Value} {odv92 anv92 : Option Addr} {slv92 : Array (Option Value)} {ocv92 kVv92 dcv92 pmv92 cdv92 ctv92 : Value} {pS gS : Addr} {ddS : Option Addr} {vsS : Array Value} {ssS : Array (Option Value)} {rsS : List Value} {odv93 anv93 : Option Addr} {slv93 : Array (Option Value)} {ocv93 kVv93 dcv93 pmv93 cdv93 ctv93 : Value} {f_is_int : Addr} {odv94 anv94 : Option Addr} {slv94 : Array (Option Value)} {ocv94 kVv94 dcv94 pmv94 cdv94 ctv94 : Value} {f_full_word : Addr} {odv95 anv95 : Option Addr} {slv95 : Array (Option Value)} {ocv95 kVv95 dcv95 pmv95 cdv95 ctv95 : Value} {f_is_word : Addr} {odv96 anv96 : Option Addr} {slv96 : Array (Option Value)} {ocv96 kVv96 dcv96 pmv96 cdv96 ctv96 : Value} {f_check_word : Addr} {odv97 anv97 : Option Addr} {slv97 : Array (Option Value)} {ocv97 kVv97 dcv97 pmv97 cdv97 ctv97 : Value} {f__law_pen : Addr} {odv98 anv98 : Option Addr} {slv98 : Array (Option Value)} {ocv98 kVv98 dcv98 pmv98 cdv98 ctv98 : Value} {f__law_draw : Addr} {odv99 anv99 : Option Addr} {slv99 : Array (Option Value)} {ocv99 kVv99 dcv99 pmv99 cdv99 ctv99 : Value} {f__law_write : Addr} {odv100 anv100 : Option Addr} {slv100 : Array (Option Value)} {ocv100 kVv100 dcv100 pmv100 cdv100 ctv100 : Value} {f__law_read : Addr} {odv101 anv101 : Option Addr} {slv101 : Array (Option Value)} {ocv101 kVv101 dcv101 pmv101 cdv101 ctv101 : Value} {f__law_deeds : Addr} {odv102 anv102 : Option Addr} {slv102 : Array (Option Value)} {ocv102 kVv102 dcv102 pmv102 cdv102 ctv102 : Value} {f__law_plain_bit : Addr} {odv103 anv103 : Option Addr} {slv103 : Array (Option Value)} {ocv103 kVv103 dcv103 pmv103 cdv103 ctv103 : Value} {f__law_bit : Addr} {odv104 anv104 : Option Addr} {slv104 : Array (Option Value)} {ocv104 kVv104 dcv104 pmv104 cdv104 ctv104 : Value} {f__law_words_of : Addr} {odv105 anv105 : Option Addr} {slv105 : Array (Option Value)} {ocv105 kVv105 dcv105 pmv105 cdv105 ctv105 : Value} {f__law_marks : Addr} {odv106 anv106 : Option Addr} {slv106 : Array (Option Value)} {ocv106 kVv106 dcv106 pmv106 cdv106 ctv106 : Value} {f__law_above : Addr} {odv107 anv107 : Option Addr} {slv107 : Array (Option Value)} {ocv107 kVv107 dcv107 pmv107 cdv107 ctv107 : Value} {f__law_done : Addr} {odv108 anv108 : Option Addr} {slv108 : Array (Option Value)} {ocv108 kVv108 dcv108 pmv108 cdv108 ctv108 : Value} {f_law : Addr} {odv109 anv109 : Option Addr} {slv109 : Array (Option Value)} {ocv109 kVv109 dcv109 pmv109 cdv109 ctv109 : Value} {wa0 : Addr} {mcB0 : Value} {u111 : Tok} {u112 : Tok} {u113 : Tok} {ddt110 : Option Addr} {nnt110 : Nat} {sst110 : Array (Option Value)} {wa1 : Addr} {mcB1 : Value} {u115 : Tok} {u116 : Tok} {u117 : Tok} {ddt114 : Option Addr} {nnt114 : Nat} {sst114 : Array (Option Value)} {wa2 : Addr} {mcB2 : Value} {u119 : Tok} {u120 : Tok} {u121 : Tok} {ddt118 : Option Addr} {nnt118 : Nat} {sst118 : Array (Option Value)} {wa3 : Addr} {mcB3 : Value} {u123 : Tok} {u124 : Tok} {u125 : Tok} {ddt122 : Option Addr} {nnt122 : Nat} {sst122 : Array (Option Value)} {wa4 : Addr} {mcB4 : Value} {u127 : Tok} {u128 : Tok} {u129 : Tok} {ddt126 : Option Addr} {nnt126 : Nat} {sst126 : Array (Option Value)} {wa5 : Addr} {mcB5 : Value} {u131 : Tok} {u132 : Tok} {u133 : Tok} {ddt130 : Option Addr} {nnt130 : Nat} {sst130 : Array (Option Value)} {wa6 : Addr} {mcB6 : Value} {u135 : Tok} {u136 : Tok} {u137 : Tok} {ddt134 : Option Addr} {nnt134 : Nat} {sst134 : Array (Option Value)} {wa7 : Addr} {mcB7 : Value} {u139 : Tok} {u140 : Tok} {u141 : Tok} {ddt138 : Option Addr} {nnt138 : Nat} {sst138 : Array (Option Value)} {wa8 : Addr} {mcB8 : Value} {u143 : Tok} {u144 : Tok} {u145 : Tok} {ddt142 : Option Addr} {nnt142 : Nat} {sst142 : Array (Option Value)} {wa9 : Addr} {mcB9 : Value} {u147 : Tok} {u148 : Tok} {u149 : Tok} {ddt146 : Option Addr} {nnt146 : Nat} {sst146 : Array (Option Value)} {wa10 : Addr} {mcB10 : Value} {u151 : Tok} {u152 : Tok} {u153 : Tok} {ddt150 : Option Addr} {nnt150 : Nat} {sst150 : Array (Option Value)} {wa11 : Addr} {mcB11 : Value} {u155 : Tok} {u156 : Tok} {u157 : Tok} {ddt154 : Option Addr} {nnt154 : Nat} {sst154 : Array (Option Value)} {wa12 : Addr} {mcB12 : Value} {u159 : Tok} {u160 : Tok} {u161 : Tok} {ddt158 : Option Addr} {nnt158 : Nat} {sst158 : Array (Option Value)} {wa13 : Addr} {mcB13 : Value} {u163 : Tok} {u164 : Tok} {u165 : Tok} {ddt162 : Option Addr} {nnt162 : Nat} {sst162 : Array (Option Value)} {wa14 : Addr} {mcB14 : Value} {u167 : Tok} {u168 : Tok} {u169 : Tok} {ddt166 : Option Addr} {nnt166 : Nat} {sst166 : Array (Option Value)} {wa15 : Addr} {mcB15 : Value} {u171 : Tok} {u172 : Tok} {u173 : Tok} {ddt170 : Option Addr} {nnt170 : Nat} {sst170 : Array (Option Value)}
    (n_Kind : PySem.W.nsIn K mainGlobals "Kind" = some (some (.ref C)))
    (n_WRITES : PySem.W.nsIn K mainGlobals "WRITES" = some (some (.ref aW)))
    (n_INVERTED : PySem.W.nsIn K mainGlobals "INVERTED" = some (some (.ref aI)))
    (n_BitError : PySem.W.nsIn K mainGlobals "BitError" = some (some (.ref BE)))
    (n_Bit : PySem.W.nsIn K mainGlobals "Bit" = some (some (.ref B0)))
    (n_TakenBit : PySem.W.nsIn K mainGlobals "TakenBit" = some (some (.ref B1)))
    (n_ClearedBit : PySem.W.nsIn K mainGlobals "ClearedBit" = some (some (.ref B2)))
    (n_ZeroClearedBit : PySem.W.nsIn K mainGlobals "ZeroClearedBit" = some (some (.ref B3)))
    (n_SetBit : PySem.W.nsIn K mainGlobals "SetBit" = some (some (.ref B4)))
    (n_FlippedBit : PySem.W.nsIn K mainGlobals "FlippedBit" = some (some (.ref B5)))
    (n_OnceBit : PySem.W.nsIn K mainGlobals "OnceBit" = some (some (.ref B6)))
    (n_DeafBit : PySem.W.nsIn K mainGlobals "DeafBit" = some (some (.ref B7)))
    (n_RaisedBit : PySem.W.nsIn K mainGlobals "RaisedBit" = some (some (.ref B8)))
    (n_EndedBit : PySem.W.nsIn K mainGlobals "EndedBit" = some (some (.ref B9)))
    (n_DriftingBit : PySem.W.nsIn K mainGlobals "DriftingBit" = some (some (.ref B10)))
    (n_EventBit : PySem.W.nsIn K mainGlobals "EventBit" = some (some (.ref B11)))
    (n_TakenEventBit : PySem.W.nsIn K mainGlobals "TakenEventBit" = some (some (.ref B12)))
    (n_StartBit : PySem.W.nsIn K mainGlobals "StartBit" = some (some (.ref B13)))
    (n_GaugeBit : PySem.W.nsIn K mainGlobals "GaugeBit" = some (some (.ref B14)))
    (n_SealedBit : PySem.W.nsIn K mainGlobals "SealedBit" = some (some (.ref B15)))
    (n_KindBit : PySem.W.nsIn K mainGlobals "KindBit" = some (some (.ref B16)))
    (n_SPENT : PySem.W.nsIn K mainGlobals "SPENT" = some (some (.int 2 tS)))
    (no_int : PySem.W.nsIn K mainGlobals "int" = some none)
    (no_len : PySem.W.nsIn K mainGlobals "len" = some none)
    (no_abs : PySem.W.nsIn K mainGlobals "abs" = some none)
    (no_list : PySem.W.nsIn K mainGlobals "list" = some none)
    (no_repr : PySem.W.nsIn K mainGlobals "repr" = some none)
    (no_range : PySem.W.nsIn K mainGlobals "range" = some none)
    (no_str : PySem.W.nsIn K mainGlobals "str" = some none)
    (no_isinstance : PySem.W.nsIn K mainGlobals "isinstance" = some none)
    (no_bool : PySem.W.nsIn K mainGlobals "bool" = some none)
    (no_tuple : PySem.W.nsIn K mainGlobals "tuple" = some none)
    (no_super : PySem.W.nsIn K mainGlobals "super" = some none)
    (no_zip : PySem.W.nsIn K mainGlobals "zip" = some none)
    (no_set : PySem.W.nsIn K mainGlobals "set" = some none)
    (no_sorted : PySem.W.nsIn K mainGlobals "sorted" = some none)
    (pg : PySem.W.plainGet K C Str.empty = true)
    (hd : PySem.W.hasDictIn K C = true)
    (po : PySem.W.plainOver K C = true)
    (fd_C_setattr : PySem.W.findIn K (.ref C) "__setattr__" = some (some (.builtin "object.__setattr__")))
    (fd_C_reading : PySem.W.findIn K (.ref C) "reading" = some none)
    (fd_C_writing : PySem.W.findIn K (.ref C) "writing" = some none)
    (fd_C_device : PySem.W.findIn K (.ref C) "device" = some none)
    (fd_C_states : PySem.W.findIn K (.ref C) "states" = some none)
    (fd_C_class : PySem.W.findIn K (.ref C) "__class__" = some (some (.builtin "object.__class__")))
    (fd_C_ne : PySem.W.findIn K (.ref C) "__ne__" = some (some (.builtin "object.__ne__")))
    (isG : PySem.W.specialIn K (.builtin "object.__class__") "__get__" = some (some (.builtin "getset_descriptor.__get__")))
    (isT : PySem.W.takesIn K (.builtin "object.__class__") = some true)
    (isM : PySem.W.mroIn K C (.type "object") = some true)
    (mk : PySem.W.makesIn K C = true)
    (kc : PySem.W.keepIn K (.ref C) = true)
    (mcT : PySem.W.typeIn K (.ref C) = some mc)
    (rdI : PySem.W.readsIn K C mc = true)
    (gaI : PySem.W.specialIn K (.ref C) "__getattribute__" = some (some (.builtin "type.__getattribute__")))
    (v_READINGS : PySem.W.findCls K (.ref C) mc "READINGS" = some (.val (.ref aR)))
    (q_aR : K.lookup aR = some ⟨.type "tuple", ddt1, .seq #[.str "keep" u2, .str "take" u3] nnt1, sst1⟩)
    (v_WRITINGS : PySem.W.findCls K (.ref C) mc "WRITINGS" = some (.val (.ref bW)))
    (q_bW : K.lookup bW = some ⟨.type "tuple", ddt4, .seq #[.str "store" u5, .str "clear1" u6, .str "clear0" u7, .str "set1" u8, .str "flip1" u9, .str "once" u10, .str "none" u11] nnt4, sst4⟩)
    (v_DEVICES : PySem.W.findCls K (.ref C) mc "DEVICES" = some (.val (.ref aD)))
    (q_aD : K.lookup aD = some ⟨.type "tuple", ddt12, .seq #[.str "still" u13, .str "raise" u14, .str "end" u15, .str "drift" u16] nnt12, sst12⟩)
    (lW : K.lookup aW = some ⟨.type "dict", none, .dict esW nW_, #[]⟩)
    (lI : K.lookup aI = some ⟨.type "dict", none, .dict esI nI_, #[]⟩)
    (kW : PySem.W.KeysLit w.params esW.toList)
    (kI : PySem.W.KeysLit w.params esI.toList)
    (g_w_store : PySem.W.nsIn K aW "store" = some (some (.ref w_store)))
    (q_w_store : K.lookup w_store = some ⟨.type "tuple", ddt17, .seq #[.ref w_storea, .ref w_storeb] nnt17, sst17⟩)
    (q_w_storea : K.lookup w_storea = some ⟨.type "tuple", ddt18, .seq #[.int 0 u19, .int 1 u20] nnt18, sst18⟩)
    (q_w_storeb : K.lookup w_storeb = some ⟨.type "tuple", ddt21, .seq #[.int 0 u22, .int 1 u23] nnt21, sst21⟩)
    (g_w_clear1 : PySem.W.nsIn K aW "clear1" = some (some (.ref w_clear1)))
    (q_w_clear1 : K.lookup w_clear1 = some ⟨.type "tuple", ddt24, .seq #[.ref w_clear1a, .ref w_clear1b] nnt24, sst24⟩)
    (q_w_clear1a : K.lookup w_clear1a = some ⟨.type "tuple", ddt25, .seq #[.int 0 u26, .int 0 u27] nnt25, sst25⟩)
    (q_w_clear1b : K.lookup w_clear1b = some ⟨.type "tuple", ddt28, .seq #[.int 1 u29, .int 0 u30] nnt28, sst28⟩)
    (g_w_clear0 : PySem.W.nsIn K aW "clear0" = some (some (.ref w_clear0)))
    (q_w_clear0 : K.lookup w_clear0 = some ⟨.type "tuple", ddt31, .seq #[.ref w_clear0a, .ref w_clear0b] nnt31, sst31⟩)
    (q_w_clear0a : K.lookup w_clear0a = some ⟨.type "tuple", ddt32, .seq #[.int 0 u33, .int 0 u34] nnt32, sst32⟩)
    (q_w_clear0b : K.lookup w_clear0b = some ⟨.type "tuple", ddt35, .seq #[.int 0 u36, .int 1 u37] nnt35, sst35⟩)
    (g_w_set1 : PySem.W.nsIn K aW "set1" = some (some (.ref w_set1)))
    (q_w_set1 : K.lookup w_set1 = some ⟨.type "tuple", ddt38, .seq #[.ref w_set1a, .ref w_set1b] nnt38, sst38⟩)
    (q_w_set1a : K.lookup w_set1a = some ⟨.type "tuple", ddt39, .seq #[.int 0 u40, .int 1 u41] nnt39, sst39⟩)
    (q_w_set1b : K.lookup w_set1b = some ⟨.type "tuple", ddt42, .seq #[.int 1 u43, .int 1 u44] nnt42, sst42⟩)
    (g_w_flip1 : PySem.W.nsIn K aW "flip1" = some (some (.ref w_flip1)))
    (q_w_flip1 : K.lookup w_flip1 = some ⟨.type "tuple", ddt45, .seq #[.ref w_flip1a, .ref w_flip1b] nnt45, sst45⟩)
    (q_w_flip1a : K.lookup w_flip1a = some ⟨.type "tuple", ddt46, .seq #[.int 0 u47, .int 1 u48] nnt46, sst46⟩)
    (q_w_flip1b : K.lookup w_flip1b = some ⟨.type "tuple", ddt49, .seq #[.int 1 u50, .int 0 u51] nnt49, sst49⟩)
    (g_w_once : PySem.W.nsIn K aW "once" = some (some (.ref w_once)))
    (q_w_once : K.lookup w_once = some ⟨.type "tuple", ddt52, .seq #[.ref w_oncea, .ref w_onceb] nnt52, sst52⟩)
    (q_w_oncea : K.lookup w_oncea = some ⟨.type "tuple", ddt53, .seq #[.int 2 u54, .int 3 u55] nnt53, sst53⟩)
    (q_w_onceb : K.lookup w_onceb = some ⟨.type "tuple", ddt56, .seq #[.int 2 u57, .int 3 u58] nnt56, sst56⟩)
    (g_w_none : PySem.W.nsIn K aW "none" = some (some (.ref w_none)))
    (q_w_none : K.lookup w_none = some ⟨.type "tuple", ddt59, .seq #[.ref w_nonea, .ref w_noneb] nnt59, sst59⟩)
    (q_w_nonea : K.lookup w_nonea = some ⟨.type "tuple", ddt60, .seq #[.int 0 u61, .int 0 u62] nnt60, sst60⟩)
    (q_w_noneb : K.lookup w_noneb = some ⟨.type "tuple", ddt63, .seq #[.int 1 u64, .int 1 u65] nnt63, sst63⟩)
    (g_i_still : PySem.W.nsIn K aI "still" = some (some (.ref i_still)))
    (q_i_still : K.lookup i_still = some ⟨.type "tuple", ddt66, .seq #[] nnt66, sst66⟩)
    (g_i_raise : PySem.W.nsIn K aI "raise" = some (some (.ref i_raise)))
    (q_i_raise : K.lookup i_raise = some ⟨.type "tuple", ddt67, .seq #[.int 0 u68] nnt67, sst67⟩)
    (g_i_end : PySem.W.nsIn K aI "end" = some (some (.ref i_end)))
    (q_i_end : K.lookup i_end = some ⟨.type "tuple", ddt69, .seq #[.int 1 u70] nnt69, sst69⟩)
    (g_i_drift : PySem.W.nsIn K aI "drift" = some (some (.ref i_drift)))
    (q_i_drift : K.lookup i_drift = some ⟨.type "tuple", ddt71, .seq #[.int 0 u72, .int 1 u73] nnt71, sst71⟩)
    (a_Kind___init__ : PySem.W.findIn K (.ref C) "__init__" = some (some (.ref m_Kind_init)))
    (i_Kind___init__ : PySem.W.isFn K (.ref m_Kind_init) = true)
    (l_Kind___init__ : K.lookup m_Kind_init = some ⟨ocv74, odv74, .func (PySem.W.fnOf "__init__" "Kind.__init__" (defArgs s_Kind___init__) (defBody s_Kind___init__) (defScope s_Kind___init__) .none kVv74 dcv74 pmv74 anv74 cdv74 ctv74), slv74⟩)
    (c_Kind___init__ : PySem.W.codeIn K cdv74 "Kind.__init__" = true)
    (k_Kind___init__ : PySem.W.keepIn K (.ref m_Kind_init) = true)
    (a_Kind_after_read : PySem.W.findIn K (.ref C) "after_read" = some (some (.ref m_Kind_after_read)))
    (i_Kind_after_read : PySem.W.isFn K (.ref m_Kind_after_read) = true)
    (l_Kind_after_read : K.lookup m_Kind_after_read = some ⟨ocv75, odv75, .func (PySem.W.fnOf "after_read" "Kind.after_read" (defArgs s_Kind_after_read) (defBody s_Kind_after_read) (defScope s_Kind_after_read) .none kVv75 dcv75 pmv75 anv75 cdv75 ctv75), slv75⟩)
    (c_Kind_after_read : PySem.W.codeIn K cdv75 "Kind.after_read" = true)
    (k_Kind_after_read : PySem.W.keepIn K (.ref m_Kind_after_read) = true)
    (a_Kind_after_write : PySem.W.findIn K (.ref C) "after_write" = some (some (.ref m_Kind_after_write)))
    (i_Kind_after_write : PySem.W.isFn K (.ref m_Kind_after_write) = true)
    (l_Kind_after_write : K.lookup m_Kind_after_write = some ⟨ocv76, odv76, .func (PySem.W.fnOf "after_write" "Kind.after_write" (defArgs s_Kind_after_write) (defBody s_Kind_after_write) (defScope s_Kind_after_write) .none kVv76 dcv76 pmv76 anv76 cdv76 ctv76), slv76⟩)
    (c_Kind_after_write : PySem.W.codeIn K cdv76 "Kind.after_write" = true)
    (k_Kind_after_write : PySem.W.keepIn K (.ref m_Kind_after_write) = true)
    (a_Kind_unguarded : PySem.W.findIn K (.ref C) "unguarded" = some (some (.ref m_Kind_unguarded)))
    (i_Kind_unguarded : PySem.W.isFn K (.ref m_Kind_unguarded) = true)
    (l_Kind_unguarded : K.lookup m_Kind_unguarded = some ⟨ocv77, odv77, .func (PySem.W.fnOf "unguarded" "Kind.unguarded" (defArgs s_Kind_unguarded) (defBody s_Kind_unguarded) (defScope s_Kind_unguarded) .none kVv77 dcv77 pmv77 anv77 cdv77 ctv77), slv77⟩)
    (c_Kind_unguarded : PySem.W.codeIn K cdv77 "Kind.unguarded" = true)
    (k_Kind_unguarded : PySem.W.keepIn K (.ref m_Kind_unguarded) = true)
    (a_Kind_deeds : PySem.W.findIn K (.ref C) "deeds" = some (some (.ref m_Kind_deeds)))
    (i_Kind_deeds : PySem.W.isFn K (.ref m_Kind_deeds) = true)
    (l_Kind_deeds : K.lookup m_Kind_deeds = some ⟨ocv78, odv78, .func (PySem.W.fnOf "deeds" "Kind.deeds" (defArgs s_Kind_deeds) (defBody s_Kind_deeds) (defScope s_Kind_deeds) .none kVv78 dcv78 pmv78 anv78 cdv78 ctv78), slv78⟩)
    (c_Kind_deeds : PySem.W.codeIn K cdv78 "Kind.deeds" = true)
    (k_Kind_deeds : PySem.W.keepIn K (.ref m_Kind_deeds) = true)
    (a_Kind___eq__ : PySem.W.findIn K (.ref C) "__eq__" = some (some (.ref m_Kind_eq)))
    (i_Kind___eq__ : PySem.W.isFn K (.ref m_Kind_eq) = true)
    (l_Kind___eq__ : K.lookup m_Kind_eq = some ⟨ocv79, odv79, .func (PySem.W.fnOf "__eq__" "Kind.__eq__" (defArgs s_Kind___eq__) (defBody s_Kind___eq__) (defScope s_Kind___eq__) .none kVv79 dcv79 pmv79 anv79 cdv79 ctv79), slv79⟩)
    (c_Kind___eq__ : PySem.W.codeIn K cdv79 "Kind.__eq__" = true)
    (k_Kind___eq__ : PySem.W.keepIn K (.ref m_Kind_eq) = true)
    (n_InvalidWord : PySem.W.nsIn K mainGlobals "InvalidWord" = some (some (.ref E2)))
    (ty2 : PySem.W.typeIn K (.ref E2) = some (.type "type"))
    (sB2 : PySem.W.subIn K (.ref E2) (.type "BaseException") = some true)
    (fd_E2_value : PySem.W.findIn K (.ref E2) "value" = some none)
    (sV2 : PySem.W.subIn K (.ref E2) (.type "ValueError") = some true)
    (fBE : PySem.W.findIn K (.ref BE) "__init__" = some (some (.builtin "ValueError.__init__")))
    (cBE : PySem.W.clsIn K BE = some cdB)
    (opq : PySem.W.nsIn K cStatics "thirdparty.any" = some none)
    (topE : (l.prog.main.scope.names.lookup ("super" : Str)).isSome = false)
    (clE2 : K.lookup E2 = some (excClassObj nmE2 qE2 E2 NE2 bsE2 bmE2 true snE2 subE2 abE2 colE2 ddE2 j0_2 j1_2 j2_2 j3_2 j5_2 "ValueError.__new__"))
    (veE2 : PySem.HandSPX.refsVE bmE2 = true)
    (fd_E2_setattr : PySem.W.findIn K (.ref E2) "__setattr__" = some (some (.builtin "object.__setattr__")))
    (kE2 : PySem.W.keepIn K (.ref E2) = true)
    (iniE2 : PySem.W.findIn K (.ref E2) "__init__" = some (some (.ref fI2)))
    (fnE2 : PySem.W.typeIn K (.ref fI2) = some (.type "function"))
    (lE2 : K.lookup fI2 = some ⟨ocE2, odE2, .func (PySem.W.ksFn "__init__" "InvalidWord.__init__" (defArgs s_InvalidWord___init__) (defBody s_InvalidWord___init__) (defScope s_InvalidWord___init__) .none kVE2 dcE2 pmE2 anE2 (.ref cda2) ctE2 cc2), slE2⟩)
    (cE2 : PySem.W.codeIn K (.ref cda2) "InvalidWord.__init__" = true)
    (lC2 : K.lookup cda2 = some ⟨ccl2, cdd2, .fields vsE2, ccs2⟩)
    (vE2 : vsE2[2]? = some (.str fileE2 tfE2))
    (fE2 : ((l.prog.main.file : Str) == fileE2) = true)
    (lcc2 : K.lookup cc2 = some ⟨ccv2, cld2, .cell (some (.ref E2)), csl2⟩)
    (mE2 : PySem.W.mroIn K E2 (.ref E2) = some true)
    (mBE2 : bmE2 = cdB.mro)
    (pg0 : PySem.W.plainGet K B0 Str.empty = true)
    (hd0 : PySem.W.hasDictIn K B0 = true)
    (po0 : PySem.W.plainOver K B0 = true)
    (fd_B0_setattr : PySem.W.findIn K (.ref B0) "__setattr__" = some (some (.builtin "object.__setattr__")))
    (fd_B0_state : PySem.W.findIn K (.ref B0) "_state" = some none)
    (mk0 : PySem.W.makesIn K B0 = true)
    (kc0 : PySem.W.keepIn K (.ref B0) = true)
    (in0 : PySem.W.findIn K (.ref B0) "__init__" = some (some (.ref fbI)))
    (rd0 : PySem.W.findIn K (.ref B0) "read" = some (some (.ref frB)))
    (wr0 : PySem.W.findIn K (.ref B0) "write" = some (some (.ref fwB)))
    (dd0 : PySem.W.findIn K (.ref B0) "deed" = some (some (.ref fdB)))
    (nw0 : PySem.W.findIn K (.ref B0) "now" = some (some (.ref pN)))
    (st0 : PySem.W.findIn K (.ref B0) "state" = some (some (.ref pS)))
    (pg1 : PySem.W.plainGet K B1 Str.empty = true)
    (hd1 : PySem.W.hasDictIn K B1 = true)
    (po1 : PySem.W.plainOver K B1 = true)
    (fd_B1_setattr : PySem.W.findIn K (.ref B1) "__setattr__" = some (some (.builtin "object.__setattr__")))
    (fd_B1_state : PySem.W.findIn K (.ref B1) "_state" = some none)
    (mk1 : PySem.W.makesIn K B1 = true)
    (kc1 : PySem.W.keepIn K (.ref B1) = true)
    (in1 : PySem.W.findIn K (.ref B1) "__init__" = some (some (.ref fbI)))
    (rd1 : PySem.W.findIn K (.ref B1) "read" = some (some (.ref frT)))
    (wr1 : PySem.W.findIn K (.ref B1) "write" = some (some (.ref fwB)))
    (dd1 : PySem.W.findIn K (.ref B1) "deed" = some (some (.ref fdB)))
    (nw1 : PySem.W.findIn K (.ref B1) "now" = some (some (.ref pN)))
    (st1 : PySem.W.findIn K (.ref B1) "state" = some (some (.ref pS)))
    (pg2 : PySem.W.plainGet K B2 Str.empty = true)
    (hd2 : PySem.W.hasDictIn K B2 = true)
    (po2 : PySem.W.plainOver K B2 = true)
    (fd_B2_setattr : PySem.W.findIn K (.ref B2) "__setattr__" = some (some (.builtin "object.__setattr__")))
    (fd_B2_state : PySem.W.findIn K (.ref B2) "_state" = some none)
    (mk2 : PySem.W.makesIn K B2 = true)
    (kc2 : PySem.W.keepIn K (.ref B2) = true)
    (in2 : PySem.W.findIn K (.ref B2) "__init__" = some (some (.ref fbI)))
    (rd2 : PySem.W.findIn K (.ref B2) "read" = some (some (.ref frB)))
    (wr2 : PySem.W.findIn K (.ref B2) "write" = some (some (.ref fwC)))
    (dd2 : PySem.W.findIn K (.ref B2) "deed" = some (some (.ref fdB)))
    (nw2 : PySem.W.findIn K (.ref B2) "now" = some (some (.ref pN)))
    (st2 : PySem.W.findIn K (.ref B2) "state" = some (some (.ref pS)))
    (pg3 : PySem.W.plainGet K B3 Str.empty = true)
    (hd3 : PySem.W.hasDictIn K B3 = true)
    (po3 : PySem.W.plainOver K B3 = true)
    (fd_B3_setattr : PySem.W.findIn K (.ref B3) "__setattr__" = some (some (.builtin "object.__setattr__")))
    (fd_B3_state : PySem.W.findIn K (.ref B3) "_state" = some none)
    (mk3 : PySem.W.makesIn K B3 = true)
    (kc3 : PySem.W.keepIn K (.ref B3) = true)
    (in3 : PySem.W.findIn K (.ref B3) "__init__" = some (some (.ref fbI)))
    (rd3 : PySem.W.findIn K (.ref B3) "read" = some (some (.ref frB)))
    (wr3 : PySem.W.findIn K (.ref B3) "write" = some (some (.ref fwZ)))
    (dd3 : PySem.W.findIn K (.ref B3) "deed" = some (some (.ref fdB)))
    (nw3 : PySem.W.findIn K (.ref B3) "now" = some (some (.ref pN)))
    (st3 : PySem.W.findIn K (.ref B3) "state" = some (some (.ref pS)))
    (pg4 : PySem.W.plainGet K B4 Str.empty = true)
    (hd4 : PySem.W.hasDictIn K B4 = true)
    (po4 : PySem.W.plainOver K B4 = true)
    (fd_B4_setattr : PySem.W.findIn K (.ref B4) "__setattr__" = some (some (.builtin "object.__setattr__")))
    (fd_B4_state : PySem.W.findIn K (.ref B4) "_state" = some none)
    (mk4 : PySem.W.makesIn K B4 = true)
    (kc4 : PySem.W.keepIn K (.ref B4) = true)
    (in4 : PySem.W.findIn K (.ref B4) "__init__" = some (some (.ref fbI)))
    (rd4 : PySem.W.findIn K (.ref B4) "read" = some (some (.ref frB)))
    (wr4 : PySem.W.findIn K (.ref B4) "write" = some (some (.ref fwS)))
    (dd4 : PySem.W.findIn K (.ref B4) "deed" = some (some (.ref fdB)))
    (nw4 : PySem.W.findIn K (.ref B4) "now" = some (some (.ref pN)))
    (st4 : PySem.W.findIn K (.ref B4) "state" = some (some (.ref pS)))
    (pg5 : PySem.W.plainGet K B5 Str.empty = true)
    (hd5 : PySem.W.hasDictIn K B5 = true)
    (po5 : PySem.W.plainOver K B5 = true)
    (fd_B5_setattr : PySem.W.findIn K (.ref B5) "__setattr__" = some (some (.builtin "object.__setattr__")))
    (fd_B5_state : PySem.W.findIn K (.ref B5) "_state" = some none)
    (mk5 : PySem.W.makesIn K B5 = true)
    (kc5 : PySem.W.keepIn K (.ref B5) = true)
    (in5 : PySem.W.findIn K (.ref B5) "__init__" = some (some (.ref fbI)))
    (rd5 : PySem.W.findIn K (.ref B5) "read" = some (some (.ref frB)))
    (wr5 : PySem.W.findIn K (.ref B5) "write" = some (some (.ref fwF)))
    (dd5 : PySem.W.findIn K (.ref B5) "deed" = some (some (.ref fdB)))
    (nw5 : PySem.W.findIn K (.ref B5) "now" = some (some (.ref pN)))
    (st5 : PySem.W.findIn K (.ref B5) "state" = some (some (.ref pS)))
    (pg6 : PySem.W.plainGet K B6 Str.empty = true)
    (hd6 : PySem.W.hasDictIn K B6 = true)
    (po6 : PySem.W.plainOver K B6 = true)
    (fd_B6_setattr : PySem.W.findIn K (.ref B6) "__setattr__" = some (some (.builtin "object.__setattr__")))
    (fd_B6_state : PySem.W.findIn K (.ref B6) "_state" = some none)
    (mk6 : PySem.W.makesIn K B6 = true)
    (kc6 : PySem.W.keepIn K (.ref B6) = true)
    (in6 : PySem.W.findIn K (.ref B6) "__init__" = some (some (.ref fbI)))
    (rd6 : PySem.W.findIn K (.ref B6) "read" = some (some (.ref frB)))
    (wr6 : PySem.W.findIn K (.ref B6) "write" = some (some (.ref fwO)))
    (dd6 : PySem.W.findIn K (.ref B6) "deed" = some (some (.ref fdB)))
    (nw6 : PySem.W.findIn K (.ref B6) "now" = some (some (.ref pN)))
    (st6 : PySem.W.findIn K (.ref B6) "state" = some (some (.ref pS)))
    (pg7 : PySem.W.plainGet K B7 Str.empty = true)
    (hd7 : PySem.W.hasDictIn K B7 = true)
    (po7 : PySem.W.plainOver K B7 = true)
    (fd_B7_setattr : PySem.W.findIn K (.ref B7) "__setattr__" = some (some (.builtin "object.__setattr__")))
    (fd_B7_state : PySem.W.findIn K (.ref B7) "_state" = some none)
    (mk7 : PySem.W.makesIn K B7 = true)
    (kc7 : PySem.W.keepIn K (.ref B7) = true)
    (in7 : PySem.W.findIn K (.ref B7) "__init__" = some (some (.ref fbI)))
    (rd7 : PySem.W.findIn K (.ref B7) "read" = some (some (.ref frB)))
    (wr7 : PySem.W.findIn K (.ref B7) "write" = some (some (.ref fwD)))
    (dd7 : PySem.W.findIn K (.ref B7) "deed" = some (some (.ref fdB)))
    (nw7 : PySem.W.findIn K (.ref B7) "now" = some (some (.ref pN)))
    (st7 : PySem.W.findIn K (.ref B7) "state" = some (some (.ref pS)))
    (pg8 : PySem.W.plainGet K B8 Str.empty = true)
    (hd8 : PySem.W.hasDictIn K B8 = true)
    (po8 : PySem.W.plainOver K B8 = true)
    (fd_B8_setattr : PySem.W.findIn K (.ref B8) "__setattr__" = some (some (.builtin "object.__setattr__")))
    (fd_B8_state : PySem.W.findIn K (.ref B8) "_state" = some none)
    (mk8 : PySem.W.makesIn K B8 = true)
    (kc8 : PySem.W.keepIn K (.ref B8) = true)
    (in8 : PySem.W.findIn K (.ref B8) "__init__" = some (some (.ref fbI)))
    (rd8 : PySem.W.findIn K (.ref B8) "read" = some (some (.ref frB)))
    (wr8 : PySem.W.findIn K (.ref B8) "write" = some (some (.ref fwB)))
    (dd8 : PySem.W.findIn K (.ref B8) "deed" = some (some (.ref fdR)))
    (nw8 : PySem.W.findIn K (.ref B8) "now" = some (some (.ref pN)))
    (st8 : PySem.W.findIn K (.ref B8) "state" = some (some (.ref pS)))
    (pg9 : PySem.W.plainGet K B9 Str.empty = true)
    (hd9 : PySem.W.hasDictIn K B9 = true)
    (po9 : PySem.W.plainOver K B9 = true)
    (fd_B9_setattr : PySem.W.findIn K (.ref B9) "__setattr__" = some (some (.builtin "object.__setattr__")))
    (fd_B9_state : PySem.W.findIn K (.ref B9) "_state" = some none)
    (mk9 : PySem.W.makesIn K B9 = true)
    (kc9 : PySem.W.keepIn K (.ref B9) = true)
    (in9 : PySem.W.findIn K (.ref B9) "__init__" = some (some (.ref fbI)))
    (rd9 : PySem.W.findIn K (.ref B9) "read" = some (some (.ref frB)))
    (wr9 : PySem.W.findIn K (.ref B9) "write" = some (some (.ref fwB)))
    (dd9 : PySem.W.findIn K (.ref B9) "deed" = some (some (.ref fdE)))
    (nw9 : PySem.W.findIn K (.ref B9) "now" = some (some (.ref pN)))
    (st9 : PySem.W.findIn K (.ref B9) "state" = some (some (.ref pS)))
    (pg10 : PySem.W.plainGet K B10 Str.empty = true)
    (hd10 : PySem.W.hasDictIn K B10 = true)
    (po10 : PySem.W.plainOver K B10 = true)
    (fd_B10_setattr : PySem.W.findIn K (.ref B10) "__setattr__" = some (some (.builtin "object.__setattr__")))
    (fd_B10_state : PySem.W.findIn K (.ref B10) "_state" = some none)
    (mk10 : PySem.W.makesIn K B10 = true)
    (kc10 : PySem.W.keepIn K (.ref B10) = true)
    (in10 : PySem.W.findIn K (.ref B10) "__init__" = some (some (.ref fbI)))
    (rd10 : PySem.W.findIn K (.ref B10) "read" = some (some (.ref frB)))
    (wr10 : PySem.W.findIn K (.ref B10) "write" = some (some (.ref fwB)))
    (dd10 : PySem.W.findIn K (.ref B10) "deed" = some (some (.ref fdR)))
    (nw10 : PySem.W.findIn K (.ref B10) "now" = some (some (.ref pN)))
    (st10 : PySem.W.findIn K (.ref B10) "state" = some (some (.ref pS)))
    (pg11 : PySem.W.plainGet K B11 Str.empty = true)
    (hd11 : PySem.W.hasDictIn K B11 = true)
    (po11 : PySem.W.plainOver K B11 = true)
    (fd_B11_setattr : PySem.W.findIn K (.ref B11) "__setattr__" = some (some (.builtin "object.__setattr__")))
    (fd_B11_state : PySem.W.findIn K (.ref B11) "_state" = some none)
    (mk11 : PySem.W.makesIn K B11 = true)
    (kc11 : PySem.W.keepIn K (.ref B11) = true)
    (in11 : PySem.W.findIn K (.ref B11) "__init__" = some (some (.ref fbI)))
    (rd11 : PySem.W.findIn K (.ref B11) "read" = some (some (.ref frB)))
    (wr11 : PySem.W.findIn K (.ref B11) "write" = some (some (.ref fwC)))
    (dd11 : PySem.W.findIn K (.ref B11) "deed" = some (some (.ref fdR)))
    (nw11 : PySem.W.findIn K (.ref B11) "now" = some (some (.ref pN)))
    (st11 : PySem.W.findIn K (.ref B11) "state" = some (some (.ref pS)))
    (pg12 : PySem.W.plainGet K B12 Str.empty = true)
    (hd12 : PySem.W.hasDictIn K B12 = true)
    (po12 : PySem.W.plainOver K B12 = true)
    (fd_B12_setattr : PySem.W.findIn K (.ref B12) "__setattr__" = some (some (.builtin "object.__setattr__")))
    (fd_B12_state : PySem.W.findIn K (.ref B12) "_state" = some none)
    (mk12 : PySem.W.makesIn K B12 = true)
    (kc12 : PySem.W.keepIn K (.ref B12) = true)
    (in12 : PySem.W.findIn K (.ref B12) "__init__" = some (some (.ref fbI)))
    (rd12 : PySem.W.findIn K (.ref B12) "read" = some (some (.ref frT)))
    (wr12 : PySem.W.findIn K (.ref B12) "write" = some (some (.ref fwD)))
    (dd12 : PySem.W.findIn K (.ref B12) "deed" = some (some (.ref fdR)))
    (nw12 : PySem.W.findIn K (.ref B12) "now" = some (some (.ref pN)))
    (st12 : PySem.W.findIn K (.ref B12) "state" = some (some (.ref pS)))
    (pg13 : PySem.W.plainGet K B13 Str.empty = true)
    (hd13 : PySem.W.hasDictIn K B13 = true)
    (po13 : PySem.W.plainOver K B13 = true)
    (fd_B13_setattr : PySem.W.findIn K (.ref B13) "__setattr__" = some (some (.builtin "object.__setattr__")))
    (fd_B13_state : PySem.W.findIn K (.ref B13) "_state" = some none)
    (mk13 : PySem.W.makesIn K B13 = true)
    (kc13 : PySem.W.keepIn K (.ref B13) = true)
    (in13 : PySem.W.findIn K (.ref B13) "__init__" = some (some (.ref fbI)))
    (rd13 : PySem.W.findIn K (.ref B13) "read" = some (some (.ref frB)))
    (wr13 : PySem.W.findIn K (.ref B13) "write" = some (some (.ref fwS)))
    (dd13 : PySem.W.findIn K (.ref B13) "deed" = some (some (.ref fdE)))
    (nw13 : PySem.W.findIn K (.ref B13) "now" = some (some (.ref pN)))
    (st13 : PySem.W.findIn K (.ref B13) "state" = some (some (.ref pS)))
    (pg14 : PySem.W.plainGet K B14 Str.empty = true)
    (hd14 : PySem.W.hasDictIn K B14 = true)
    (po14 : PySem.W.plainOver K B14 = true)
    (fd_B14_setattr : PySem.W.findIn K (.ref B14) "__setattr__" = some (some (.builtin "object.__setattr__")))
    (fd_B14_state : PySem.W.findIn K (.ref B14) "_state" = some none)
    (mk14 : PySem.W.makesIn K B14 = true)
    (kc14 : PySem.W.keepIn K (.ref B14) = true)
    (in14 : PySem.W.findIn K (.ref B14) "__init__" = some (some (.ref fbI)))
    (rd14 : PySem.W.findIn K (.ref B14) "read" = some (some (.ref frB)))
    (wr14 : PySem.W.findIn K (.ref B14) "write" = some (some (.ref fwD)))
    (dd14 : PySem.W.findIn K (.ref B14) "deed" = some (some (.ref fdR)))
    (nw14 : PySem.W.findIn K (.ref B14) "now" = some (some (.ref pN)))
    (st14 : PySem.W.findIn K (.ref B14) "state" = some (some (.ref pS)))
    (pg15 : PySem.W.plainGet K B15 Str.empty = true)
    (hd15 : PySem.W.hasDictIn K B15 = true)
    (po15 : PySem.W.plainOver K B15 = true)
    (fd_B15_setattr : PySem.W.findIn K (.ref B15) "__setattr__" = some (some (.builtin "object.__setattr__")))
    (fd_B15_state : PySem.W.findIn K (.ref B15) "_state" = some none)
    (mk15 : PySem.W.makesIn K B15 = true)
    (kc15 : PySem.W.keepIn K (.ref B15) = true)
    (in15 : PySem.W.findIn K (.ref B15) "__init__" = some (some (.ref fbI)))
    (rd15 : PySem.W.findIn K (.ref B15) "read" = some (some (.ref frT)))
    (wr15 : PySem.W.findIn K (.ref B15) "write" = some (some (.ref fwO)))
    (dd15 : PySem.W.findIn K (.ref B15) "deed" = some (some (.ref fdB)))
    (nw15 : PySem.W.findIn K (.ref B15) "now" = some (some (.ref pN)))
    (st15 : PySem.W.findIn K (.ref B15) "state" = some (some (.ref pS)))
    (pg16 : PySem.W.plainGet K B16 Str.empty = true)
    (hd16 : PySem.W.hasDictIn K B16 = true)
    (po16 : PySem.W.plainOver K B16 = true)
    (fd_B16_setattr : PySem.W.findIn K (.ref B16) "__setattr__" = some (some (.builtin "object.__setattr__")))
    (fd_B16_state : PySem.W.findIn K (.ref B16) "_state" = some none)
    (fd_B16_kind : PySem.W.findIn K (.ref B16) "kind" = some none)
    (mk16 : PySem.W.makesIn K B16 = true)
    (kc16 : PySem.W.keepIn K (.ref B16) = true)
    (in16 : PySem.W.findIn K (.ref B16) "__init__" = some (some (.ref fkI)))
    (rd16 : PySem.W.findIn K (.ref B16) "read" = some (some (.ref frK)))
    (wr16 : PySem.W.findIn K (.ref B16) "write" = some (some (.ref fwK)))
    (dd16 : PySem.W.findIn K (.ref B16) "deed" = some (some (.ref fdK)))
    (nw16 : PySem.W.findIn K (.ref B16) "now" = some (some (.ref pN)))
    (st16 : PySem.W.findIn K (.ref B16) "state" = some (some (.ref pS)))
    (l_rB : K.lookup frB = some ⟨ocv80, odv80, .func (PySem.W.fnOf "read" "Bit.read" (defArgs s_Bit_read) (defBody s_Bit_read) (defScope s_Bit_read) .none kVv80 dcv80 pmv80 anv80 cdv80 ctv80), slv80⟩)
    (c_rB : PySem.W.codeIn K cdv80 "Bit.read" = true)
    (k_rB : PySem.W.keepIn K (.ref frB) = true)
    (i_rB : PySem.W.isFn K (.ref frB) = true)
    (l_rK : K.lookup frK = some ⟨ocv81, odv81, .func (PySem.W.fnOf "read" "KindBit.read" (defArgs s_KindBit_read) (defBody s_KindBit_read) (defScope s_KindBit_read) .none kVv81 dcv81 pmv81 anv81 cdv81 ctv81), slv81⟩)
    (c_rK : PySem.W.codeIn K cdv81 "KindBit.read" = true)
    (k_rK : PySem.W.keepIn K (.ref frK) = true)
    (i_rK : PySem.W.isFn K (.ref frK) = true)
    (l_wB : K.lookup fwB = some ⟨ocv82, odv82, .func (PySem.W.fnOf "write" "Bit.write" (defArgs s_Bit_write) (defBody s_Bit_write) (defScope s_Bit_write) .none kVv82 dcv82 pmv82 anv82 cdv82 ctv82), slv82⟩)
    (c_wB : PySem.W.codeIn K cdv82 "Bit.write" = true)
    (k_wB : PySem.W.keepIn K (.ref fwB) = true)
    (i_wB : PySem.W.isFn K (.ref fwB) = true)
    (l_wC : K.lookup fwC = some ⟨ocv83, odv83, .func (PySem.W.fnOf "write" "ClearedBit.write" (defArgs s_ClearedBit_write) (defBody s_ClearedBit_write) (defScope s_ClearedBit_write) .none kVv83 dcv83 pmv83 anv83 cdv83 ctv83), slv83⟩)
    (c_wC : PySem.W.codeIn K cdv83 "ClearedBit.write" = true)
    (k_wC : PySem.W.keepIn K (.ref fwC) = true)
    (i_wC : PySem.W.isFn K (.ref fwC) = true)
    (l_wZ : K.lookup fwZ = some ⟨ocv84, odv84, .func (PySem.W.fnOf "write" "ZeroClearedBit.write" (defArgs s_ZeroClearedBit_write) (defBody s_ZeroClearedBit_write) (defScope s_ZeroClearedBit_write) .none kVv84 dcv84 pmv84 anv84 cdv84 ctv84), slv84⟩)
    (c_wZ : PySem.W.codeIn K cdv84 "ZeroClearedBit.write" = true)
    (k_wZ : PySem.W.keepIn K (.ref fwZ) = true)
    (i_wZ : PySem.W.isFn K (.ref fwZ) = true)
    (l_wS : K.lookup fwS = some ⟨ocv85, odv85, .func (PySem.W.fnOf "write" "SetBit.write" (defArgs s_SetBit_write) (defBody s_SetBit_write) (defScope s_SetBit_write) .none kVv85 dcv85 pmv85 anv85 cdv85 ctv85), slv85⟩)
    (c_wS : PySem.W.codeIn K cdv85 "SetBit.write" = true)
    (k_wS : PySem.W.keepIn K (.ref fwS) = true)
    (i_wS : PySem.W.isFn K (.ref fwS) = true)
    (l_wF : K.lookup fwF = some ⟨ocv86, odv86, .func (PySem.W.fnOf "write" "FlippedBit.write" (defArgs s_FlippedBit_write) (defBody s_FlippedBit_write) (defScope s_FlippedBit_write) .none kVv86 dcv86 pmv86 anv86 cdv86 ctv86), slv86⟩)
    (c_wF : PySem.W.codeIn K cdv86 "FlippedBit.write" = true)
    (k_wF : PySem.W.keepIn K (.ref fwF) = true)
    (i_wF : PySem.W.isFn K (.ref fwF) = true)
    (l_wO : K.lookup fwO = some ⟨ocv87, odv87, .func (PySem.W.fnOf "write" "OnceBit.write" (defArgs s_OnceBit_write) (defBody s_OnceBit_write) (defScope s_OnceBit_write) .none kVv87 dcv87 pmv87 anv87 cdv87 ctv87), slv87⟩)
    (c_wO : PySem.W.codeIn K cdv87 "OnceBit.write" = true)
    (k_wO : PySem.W.keepIn K (.ref fwO) = true)
    (i_wO : PySem.W.isFn K (.ref fwO) = true)
    (l_wD : K.lookup fwD = some ⟨ocv88, odv88, .func (PySem.W.fnOf "write" "DeafBit.write" (defArgs s_DeafBit_write) (defBody s_DeafBit_write) (defScope s_DeafBit_write) .none kVv88 dcv88 pmv88 anv88 cdv88 ctv88), slv88⟩)
    (c_wD : PySem.W.codeIn K cdv88 "DeafBit.write" = true)
    (k_wD : PySem.W.keepIn K (.ref fwD) = true)
    (i_wD : PySem.W.isFn K (.ref fwD) = true)
    (l_wK : K.lookup fwK = some ⟨ocv89, odv89, .func (PySem.W.fnOf "write" "KindBit.write" (defArgs s_KindBit_write) (defBody s_KindBit_write) (defScope s_KindBit_write) .none kVv89 dcv89 pmv89 anv89 cdv89 ctv89), slv89⟩)
    (c_wK : PySem.W.codeIn K cdv89 "KindBit.write" = true)
    (k_wK : PySem.W.keepIn K (.ref fwK) = true)
    (i_wK : PySem.W.isFn K (.ref fwK) = true)
    (l_dB : K.lookup fdB = some ⟨ocv90, odv90, .func (PySem.W.fnOf "deed" "Bit.deed" (defArgs s_Bit_deed) (defBody s_Bit_deed) (defScope s_Bit_deed) .none kVv90 dcv90 pmv90 anv90 cdv90 ctv90), slv90⟩)
    (c_dB : PySem.W.codeIn K cdv90 "Bit.deed" = true)
    (k_dB : PySem.W.keepIn K (.ref fdB) = true)
    (i_dB : PySem.W.isFn K (.ref fdB) = true)
    (l_dK : K.lookup fdK = some ⟨ocv91, odv91, .func (PySem.W.fnOf "deed" "KindBit.deed" (defArgs s_KindBit_deed) (defBody s_KindBit_deed) (defScope s_KindBit_deed) .none kVv91 dcv91 pmv91 anv91 cdv91 ctv91), slv91⟩)
    (c_dK : PySem.W.codeIn K cdv91 "KindBit.deed" = true)
    (k_dK : PySem.W.keepIn K (.ref fdK) = true)
    (i_dK : PySem.W.isFn K (.ref fdK) = true)
    (l_rT : K.lookup frT = some ⟨ocrT, odrT, .func (PySem.W.ksFn "read" "TakenBit.read" (defArgs s_TakenBit_read) (defBody s_TakenBit_read) (defScope s_TakenBit_read) .none kVrT dcrT pmrT anrT (.ref cdarT) ctrT ccrT), slrT⟩)
    (c_rT : PySem.W.codeIn K (.ref cdarT) "TakenBit.read" = true)
    (lCrT : K.lookup cdarT = some ⟨cclrT, cddrT, .fields vsrT, ccsrT⟩)
    (vrT : vsrT[2]? = some (.str filerT tfrT))
    (flrT : ((l.prog.main.file : Str) == filerT) = true)
    (lccrT : K.lookup ccrT = some ⟨ccvrT, cldrT, .cell (some (.ref B1)), cslrT⟩)
    (clrT : PySem.W.clsIn K B1 = some cdrT)
    (i_rT : PySem.W.isFn K (.ref frT) = true)
    (k_rT : PySem.W.keepIn K (.ref frT) = true)
    (l_dR : K.lookup fdR = some ⟨ocdR, oddR, .func (PySem.W.ksFn "deed" "RaisedBit.deed" (defArgs s_RaisedBit_deed) (defBody s_RaisedBit_deed) (defScope s_RaisedBit_deed) .none kVdR dcdR pmdR andR (.ref cdadR) ctdR ccdR), sldR⟩)
    (c_dR : PySem.W.codeIn K (.ref cdadR) "RaisedBit.deed" = true)
    (lCdR : K.lookup cdadR = some ⟨ccldR, cdddR, .fields vsdR, ccsdR⟩)
    (vdR : vsdR[2]? = some (.str filedR tfdR))
    (fldR : ((l.prog.main.file : Str) == filedR) = true)
    (lccdR : K.lookup ccdR = some ⟨ccvdR, clddR, .cell (some (.ref B8)), csldR⟩)
    (cldR : PySem.W.clsIn K B8 = some cddR)
    (i_dR : PySem.W.isFn K (.ref fdR) = true)
    (k_dR : PySem.W.keepIn K (.ref fdR) = true)
    (l_dE : K.lookup fdE = some ⟨ocdE, oddE, .func (PySem.W.ksFn "deed" "EndedBit.deed" (defArgs s_EndedBit_deed) (defBody s_EndedBit_deed) (defScope s_EndedBit_deed) .none kVdE dcdE pmdE andE (.ref cdadE) ctdE ccdE), sldE⟩)
    (c_dE : PySem.W.codeIn K (.ref cdadE) "EndedBit.deed" = true)
    (lCdE : K.lookup cdadE = some ⟨ccldE, cdddE, .fields vsdE, ccsdE⟩)
    (vdE : vsdE[2]? = some (.str filedE tfdE))
    (fldE : ((l.prog.main.file : Str) == filedE) = true)
    (lccdE : K.lookup ccdE = some ⟨ccvdE, clddE, .cell (some (.ref B9)), csldE⟩)
    (cldE : PySem.W.clsIn K B9 = some cddE)
    (i_dE : PySem.W.isFn K (.ref fdE) = true)
    (k_dE : PySem.W.keepIn K (.ref fdE) = true)
    (l_kI : K.lookup fkI = some ⟨ockI, odkI, .func (PySem.W.ksFn "__init__" "KindBit.__init__" (defArgs s_KindBit___init__) (defBody s_KindBit___init__) (defScope s_KindBit___init__) (.ref TDkI) kVkI dckI pmkI ankI (.ref cdakI) ctkI cckI), slkI⟩)
    (c_kI : PySem.W.codeIn K (.ref cdakI) "KindBit.__init__" = true)
    (lCkI : K.lookup cdakI = some ⟨cclkI, cddkI, .fields vskI, ccskI⟩)
    (vkI : vskI[2]? = some (.str filekI tfkI))
    (flkI : ((l.prog.main.file : Str) == filekI) = true)
    (lcckI : K.lookup cckI = some ⟨ccvkI, cldkI, .cell (some (.ref B16)), cslkI⟩)
    (clkI : PySem.W.clsIn K B16 = some cdkI)
    (i_kI : PySem.W.isFn K (.ref fkI) = true)
    (k_kI : PySem.W.keepIn K (.ref fkI) = true)
    (l_bI : K.lookup fbI = some ⟨ocbI, odbI, .func (PySem.W.fnOf "__init__" "Bit.__init__" (defArgs s_Bit___init__) (defBody s_Bit___init__) (defScope s_Bit___init__) (.ref TDbI) kVbI dcbI pmbI anbI cdbI ctbI), slbI⟩)
    (c_bI : PySem.W.codeIn K cdbI "Bit.__init__" = true)
    (k_bI : PySem.W.keepIn K (.ref fbI) = true)
    (i_bI : PySem.W.isFn K (.ref fbI) = true)
    (n_bI : PySem.W.fnIn K fbI = true)
    (lTbI : K.lookup TDbI = some ⟨oTbI, dTbI, .seq #[.int 0 tubI] nTbI, sTbI⟩)
    (lTkI : K.lookup TDkI = some ⟨oTkI, dTkI, .seq #[.int 0 tukI] nTkI, sTkI⟩)
    (n_rB : PySem.W.fnIn K frB = true)
    (n_dB : PySem.W.fnIn K fdB = true)
    (n_dE : PySem.W.fnIn K fdE = true)
    (lN : K.lookup pN = some ⟨.type "property", ddN, .fields vsN, ssN⟩)
    (vN : vsN.toList = .ref gN :: rsN)
    (spN : PySem.W.specialIn K (.ref pN) "__get__" = some (some (.builtin "property.__get__")))
    (tN : PySem.W.takesIn K (.ref pN) = some true)
    (l_N : K.lookup gN = some ⟨ocv92, odv92, .func (PySem.W.fnOf "now" "Bit.now" (defArgs s_Bit_now) (defBody s_Bit_now) (defScope s_Bit_now) .none kVv92 dcv92 pmv92 anv92 cdv92 ctv92), slv92⟩)
    (c_N : PySem.W.codeIn K cdv92 "Bit.now" = true)
    (k_N : PySem.W.keepIn K (.ref gN) = true)
    (lS : K.lookup pS = some ⟨.type "property", ddS, .fields vsS, ssS⟩)
    (vS : vsS.toList = .ref gS :: rsS)
    (spS : PySem.W.specialIn K (.ref pS) "__get__" = some (some (.builtin "property.__get__")))
    (tS_p : PySem.W.takesIn K (.ref pS) = some true)
    (l_S : K.lookup gS = some ⟨ocv93, odv93, .func (PySem.W.fnOf "state" "Bit.state" (defArgs s_Bit_state) (defBody s_Bit_state) (defScope s_Bit_state) .none kVv93 dcv93 pmv93 anv93 cdv93 ctv93), slv93⟩)
    (c_S : PySem.W.codeIn K cdv93 "Bit.state" = true)
    (k_S : PySem.W.keepIn K (.ref gS) = true)
    (ui1_1_read : PySem.W.mroIn K B1 (.ref B1) = some true)
    (up1_1_read : PySem.W.ks_superIn K B1 B1 "read" = some (some (.ref frB)))
    (ui12_1_read : PySem.W.mroIn K B12 (.ref B1) = some true)
    (up12_1_read : PySem.W.ks_superIn K B12 B1 "read" = some (some (.ref frB)))
    (ui15_1_read : PySem.W.mroIn K B15 (.ref B1) = some true)
    (up15_1_read : PySem.W.ks_superIn K B15 B1 "read" = some (some (.ref frB)))
    (ui8_8_deed : PySem.W.mroIn K B8 (.ref B8) = some true)
    (up8_8_deed : PySem.W.ks_superIn K B8 B8 "deed" = some (some (.ref fdB)))
    (ui11_8_deed : PySem.W.mroIn K B11 (.ref B8) = some true)
    (up11_8_deed : PySem.W.ks_superIn K B11 B8 "deed" = some (some (.ref fdB)))
    (ui12_8_deed : PySem.W.mroIn K B12 (.ref B8) = some true)
    (up12_8_deed : PySem.W.ks_superIn K B12 B8 "deed" = some (some (.ref fdB)))
    (ui10_8_deed : PySem.W.mroIn K B10 (.ref B8) = some true)
    (up10_8_deed : PySem.W.ks_superIn K B10 B8 "deed" = some (some (.ref fdE)))
    (ui14_8_deed : PySem.W.mroIn K B14 (.ref B8) = some true)
    (up14_8_deed : PySem.W.ks_superIn K B14 B8 "deed" = some (some (.ref fdE)))
    (ui9_9_deed : PySem.W.mroIn K B9 (.ref B9) = some true)
    (up9_9_deed : PySem.W.ks_superIn K B9 B9 "deed" = some (some (.ref fdB)))
    (ui13_9_deed : PySem.W.mroIn K B13 (.ref B9) = some true)
    (up13_9_deed : PySem.W.ks_superIn K B13 B9 "deed" = some (some (.ref fdB)))
    (ui16_16_init : PySem.W.mroIn K B16 (.ref B16) = some true)
    (up16_16_init : PySem.W.ks_superIn K B16 B16 "__init__" = some (some (.ref fbI)))
    (n_is_int : PySem.W.nsIn K mainGlobals "is_int" = some (some (.ref f_is_int)))
    (l_is_int : K.lookup f_is_int = some ⟨ocv94, odv94, .func (PySem.W.fnOf "is_int" "is_int" (defArgs s_is_int) (defBody s_is_int) (defScope s_is_int) .none kVv94 dcv94 pmv94 anv94 cdv94 ctv94), slv94⟩)
    (c_is_int : PySem.W.codeIn K cdv94 "is_int" = true)
    (k_is_int : PySem.W.keepIn K (.ref f_is_int) = true)
    (n_full_word : PySem.W.nsIn K mainGlobals "full_word" = some (some (.ref f_full_word)))
    (l_full_word : K.lookup f_full_word = some ⟨ocv95, odv95, .func (PySem.W.fnOf "full_word" "full_word" (defArgs s_full_word) (defBody s_full_word) (defScope s_full_word) .none kVv95 dcv95 pmv95 anv95 cdv95 ctv95), slv95⟩)
    (c_full_word : PySem.W.codeIn K cdv95 "full_word" = true)
    (k_full_word : PySem.W.keepIn K (.ref f_full_word) = true)
    (n_is_word : PySem.W.nsIn K mainGlobals "is_word" = some (some (.ref f_is_word)))
    (l_is_word : K.lookup f_is_word = some ⟨ocv96, odv96, .func (PySem.W.fnOf "is_word" "is_word" (defArgs s_is_word) (defBody s_is_word) (defScope s_is_word) .none kVv96 dcv96 pmv96 anv96 cdv96 ctv96), slv96⟩)
    (c_is_word : PySem.W.codeIn K cdv96 "is_word" = true)
    (k_is_word : PySem.W.keepIn K (.ref f_is_word) = true)
    (n_check_word : PySem.W.nsIn K mainGlobals "check_word" = some (some (.ref f_check_word)))
    (l_check_word : K.lookup f_check_word = some ⟨ocv97, odv97, .func (PySem.W.fnOf "check_word" "check_word" (defArgs s_check_word) (defBody s_check_word) (defScope s_check_word) .none kVv97 dcv97 pmv97 anv97 cdv97 ctv97), slv97⟩)
    (c_check_word : PySem.W.codeIn K cdv97 "check_word" = true)
    (k_check_word : PySem.W.keepIn K (.ref f_check_word) = true)
    (n__law_pen : PySem.W.nsIn K mainGlobals "_law_pen" = some (some (.ref f__law_pen)))
    (l__law_pen : K.lookup f__law_pen = some ⟨ocv98, odv98, .func (PySem.W.fnOf "_law_pen" "_law_pen" (defArgs s__law_pen) (defBody s__law_pen) (defScope s__law_pen) .none kVv98 dcv98 pmv98 anv98 cdv98 ctv98), slv98⟩)
    (c__law_pen : PySem.W.codeIn K cdv98 "_law_pen" = true)
    (k__law_pen : PySem.W.keepIn K (.ref f__law_pen) = true)
    (n__law_draw : PySem.W.nsIn K mainGlobals "_law_draw" = some (some (.ref f__law_draw)))
    (l__law_draw : K.lookup f__law_draw = some ⟨ocv99, odv99, .func (PySem.W.fnOf "_law_draw" "_law_draw" (defArgs s__law_draw) (defBody s__law_draw) (defScope s__law_draw) .none kVv99 dcv99 pmv99 anv99 cdv99 ctv99), slv99⟩)
    (c__law_draw : PySem.W.codeIn K cdv99 "_law_draw" = true)
    (k__law_draw : PySem.W.keepIn K (.ref f__law_draw) = true)
    (n__law_write : PySem.W.nsIn K mainGlobals "_law_write" = some (some (.ref f__law_write)))
    (l__law_write : K.lookup f__law_write = some ⟨ocv100, odv100, .func (PySem.W.fnOf "_law_write" "_law_write" (defArgs s__law_write) (defBody s__law_write) (defScope s__law_write) .none kVv100 dcv100 pmv100 anv100 cdv100 ctv100), slv100⟩)
    (c__law_write : PySem.W.codeIn K cdv100 "_law_write" = true)
    (k__law_write : PySem.W.keepIn K (.ref f__law_write) = true)
    (n__law_read : PySem.W.nsIn K mainGlobals "_law_read" = some (some (.ref f__law_read)))
    (l__law_read : K.lookup f__law_read = some ⟨ocv101, odv101, .func (PySem.W.fnOf "_law_read" "_law_read" (defArgs s__law_read) (defBody s__law_read) (defScope s__law_read) .none kVv101 dcv101 pmv101 anv101 cdv101 ctv101), slv101⟩)
    (c__law_read : PySem.W.codeIn K cdv101 "_law_read" = true)
    (k__law_read : PySem.W.keepIn K (.ref f__law_read) = true)
    (n__law_deeds : PySem.W.nsIn K mainGlobals "_law_deeds" = some (some (.ref f__law_deeds)))
    (l__law_deeds : K.lookup f__law_deeds = some ⟨ocv102, odv102, .func (PySem.W.fnOf "_law_deeds" "_law_deeds" (defArgs s__law_deeds) (defBody s__law_deeds) (defScope s__law_deeds) .none kVv102 dcv102 pmv102 anv102 cdv102 ctv102), slv102⟩)
    (c__law_deeds : PySem.W.codeIn K cdv102 "_law_deeds" = true)
    (k__law_deeds : PySem.W.keepIn K (.ref f__law_deeds) = true)
    (n__law_plain_bit : PySem.W.nsIn K mainGlobals "_law_plain_bit" = some (some (.ref f__law_plain_bit)))
    (l__law_plain_bit : K.lookup f__law_plain_bit = some ⟨ocv103, odv103, .func (PySem.W.fnOf "_law_plain_bit" "_law_plain_bit" (defArgs s__law_plain_bit) (defBody s__law_plain_bit) (defScope s__law_plain_bit) .none kVv103 dcv103 pmv103 anv103 cdv103 ctv103), slv103⟩)
    (c__law_plain_bit : PySem.W.codeIn K cdv103 "_law_plain_bit" = true)
    (k__law_plain_bit : PySem.W.keepIn K (.ref f__law_plain_bit) = true)
    (n__law_bit : PySem.W.nsIn K mainGlobals "_law_bit" = some (some (.ref f__law_bit)))
    (l__law_bit : K.lookup f__law_bit = some ⟨ocv104, odv104, .func (PySem.W.fnOf "_law_bit" "_law_bit" (defArgs s__law_bit) (defBody s__law_bit) (defScope s__law_bit) .none kVv104 dcv104 pmv104 anv104 cdv104 ctv104), slv104⟩)
    (c__law_bit : PySem.W.codeIn K cdv104 "_law_bit" = true)
    (k__law_bit : PySem.W.keepIn K (.ref f__law_bit) = true)
    (n__law_words_of : PySem.W.nsIn K mainGlobals "_law_words_of" = some (some (.ref f__law_words_of)))
    (l__law_words_of : K.lookup f__law_words_of = some ⟨ocv105, odv105, .func (PySem.W.fnOf "_law_words_of" "_law_words_of" (defArgs s__law_words_of) (defBody s__law_words_of) (defScope s__law_words_of) .none kVv105 dcv105 pmv105 anv105 cdv105 ctv105), slv105⟩)
    (c__law_words_of : PySem.W.codeIn K cdv105 "_law_words_of" = true)
    (k__law_words_of : PySem.W.keepIn K (.ref f__law_words_of) = true)
    (n__law_marks : PySem.W.nsIn K mainGlobals "_law_marks" = some (some (.ref f__law_marks)))
    (l__law_marks : K.lookup f__law_marks = some ⟨ocv106, odv106, .func (PySem.W.fnOf "_law_marks" "_law_marks" (defArgs s__law_marks) (defBody s__law_marks) (defScope s__law_marks) .none kVv106 dcv106 pmv106 anv106 cdv106 ctv106), slv106⟩)
    (c__law_marks : PySem.W.codeIn K cdv106 "_law_marks" = true)
    (k__law_marks : PySem.W.keepIn K (.ref f__law_marks) = true)
    (n__law_above : PySem.W.nsIn K mainGlobals "_law_above" = some (some (.ref f__law_above)))
    (l__law_above : K.lookup f__law_above = some ⟨ocv107, odv107, .func (PySem.W.fnOf "_law_above" "_law_above" (defArgs s__law_above) (defBody s__law_above) (defScope s__law_above) .none kVv107 dcv107 pmv107 anv107 cdv107 ctv107), slv107⟩)
    (c__law_above : PySem.W.codeIn K cdv107 "_law_above" = true)
    (k__law_above : PySem.W.keepIn K (.ref f__law_above) = true)
    (n__law_done : PySem.W.nsIn K mainGlobals "_law_done" = some (some (.ref f__law_done)))
    (l__law_done : K.lookup f__law_done = some ⟨ocv108, odv108, .func (PySem.W.fnOf "_law_done" "_law_done" (defArgs s__law_done) (defBody s__law_done) (defScope s__law_done) .none kVv108 dcv108 pmv108 anv108 cdv108 ctv108), slv108⟩)
    (c__law_done : PySem.W.codeIn K cdv108 "_law_done" = true)
    (k__law_done : PySem.W.keepIn K (.ref f__law_done) = true)
    (n_law : PySem.W.nsIn K mainGlobals "law" = some (some (.ref f_law)))
    (l_law : K.lookup f_law = some ⟨ocv109, odv109, .func (PySem.W.fnOf "law" "law" (defArgs s_law) (defBody s_law) (defScope s_law) .none kVv109 dcv109 pmv109 anv109 cdv109 ctv109), slv109⟩)
    (c_law : PySem.W.codeIn K cdv109 "law" = true)
    (k_law : PySem.W.keepIn K (.ref f_law) = true)
    (cl0_ : PySem.W.findIn K (.ref B0) "__class__" = some (some (.builtin "object.__class__")))
    (mo0_ : PySem.W.mroIn K B0 (.type "object") = some true)
    (cl1_ : PySem.W.findIn K (.ref B1) "__class__" = some (some (.builtin "object.__class__")))
    (mo1_ : PySem.W.mroIn K B1 (.type "object") = some true)
    (cl2_ : PySem.W.findIn K (.ref B2) "__class__" = some (some (.builtin "object.__class__")))
    (mo2_ : PySem.W.mroIn K B2 (.type "object") = some true)
    (cl3_ : PySem.W.findIn K (.ref B3) "__class__" = some (some (.builtin "object.__class__")))
    (mo3_ : PySem.W.mroIn K B3 (.type "object") = some true)
    (cl4_ : PySem.W.findIn K (.ref B4) "__class__" = some (some (.builtin "object.__class__")))
    (mo4_ : PySem.W.mroIn K B4 (.type "object") = some true)
    (cl5_ : PySem.W.findIn K (.ref B5) "__class__" = some (some (.builtin "object.__class__")))
    (mo5_ : PySem.W.mroIn K B5 (.type "object") = some true)
    (cl6_ : PySem.W.findIn K (.ref B6) "__class__" = some (some (.builtin "object.__class__")))
    (mo6_ : PySem.W.mroIn K B6 (.type "object") = some true)
    (cl7_ : PySem.W.findIn K (.ref B7) "__class__" = some (some (.builtin "object.__class__")))
    (mo7_ : PySem.W.mroIn K B7 (.type "object") = some true)
    (cl8_ : PySem.W.findIn K (.ref B8) "__class__" = some (some (.builtin "object.__class__")))
    (mo8_ : PySem.W.mroIn K B8 (.type "object") = some true)
    (cl9_ : PySem.W.findIn K (.ref B9) "__class__" = some (some (.builtin "object.__class__")))
    (mo9_ : PySem.W.mroIn K B9 (.type "object") = some true)
    (cl10_ : PySem.W.findIn K (.ref B10) "__class__" = some (some (.builtin "object.__class__")))
    (mo10_ : PySem.W.mroIn K B10 (.type "object") = some true)
    (cl11_ : PySem.W.findIn K (.ref B11) "__class__" = some (some (.builtin "object.__class__")))
    (mo11_ : PySem.W.mroIn K B11 (.type "object") = some true)
    (cl12_ : PySem.W.findIn K (.ref B12) "__class__" = some (some (.builtin "object.__class__")))
    (mo12_ : PySem.W.mroIn K B12 (.type "object") = some true)
    (cl13_ : PySem.W.findIn K (.ref B13) "__class__" = some (some (.builtin "object.__class__")))
    (mo13_ : PySem.W.mroIn K B13 (.type "object") = some true)
    (cl14_ : PySem.W.findIn K (.ref B14) "__class__" = some (some (.builtin "object.__class__")))
    (mo14_ : PySem.W.mroIn K B14 (.type "object") = some true)
    (cl15_ : PySem.W.findIn K (.ref B15) "__class__" = some (some (.builtin "object.__class__")))
    (mo15_ : PySem.W.mroIn K B15 (.type "object") = some true)
    (cl16_ : PySem.W.findIn K (.ref B16) "__class__" = some (some (.builtin "object.__class__")))
    (mo16_ : PySem.W.mroIn K B16 (.type "object") = some true)
    (kitAll : ((List.range 17).all fun i => (List.range 17).all fun j => PySem.W.kitOne K (.ref (([B0, B1, B2, B3, B4, B5, B6, B7, B8, B9, B10, B11, B12, B13, B14, B15, B16] : List Addr).getD i 0)) (.ref (([B0, B1, B2, B3, B4, B5, B6, B7, B8, B9, B10, B11, B12, B13, B14, B15, B16] : List Addr).getD j 0)) == some (subT i j)) = true)
    (mb0_ : PySem.W.typeIn K (.ref B0) = some mcB0)
    (rb0_ : PySem.W.readsIn K B0 mcB0 = true)
    (gb0_ : PySem.W.specialIn K (.ref B0) "__getattribute__" = some (some (.builtin "type.__getattribute__")))
    (vb0_ : PySem.W.findCls K (.ref B0) mcB0 "WORDS" = some (.val (.ref wa0)))
    (fw0_ : PySem.W.findIn K (.ref B0) "WORDS" = some (some (.ref wa0)))
    (q_wa0 : K.lookup wa0 = some ⟨.type "tuple", ddt110, .seq #[.str "keep" u111, .str "store" u112, .str "still" u113] nnt110, sst110⟩)
    (sw0_ : PySem.W.specialIn K (.ref wa0) "__get__" = some none)
    (mb1_ : PySem.W.typeIn K (.ref B1) = some mcB1)
    (rb1_ : PySem.W.readsIn K B1 mcB1 = true)
    (gb1_ : PySem.W.specialIn K (.ref B1) "__getattribute__" = some (some (.builtin "type.__getattribute__")))
    (vb1_ : PySem.W.findCls K (.ref B1) mcB1 "WORDS" = some (.val (.ref wa1)))
    (fw1_ : PySem.W.findIn K (.ref B1) "WORDS" = some (some (.ref wa1)))
    (q_wa1 : K.lookup wa1 = some ⟨.type "tuple", ddt114, .seq #[.str "take" u115, .str "store" u116, .str "still" u117] nnt114, sst114⟩)
    (sw1_ : PySem.W.specialIn K (.ref wa1) "__get__" = some none)
    (mb2_ : PySem.W.typeIn K (.ref B2) = some mcB2)
    (rb2_ : PySem.W.readsIn K B2 mcB2 = true)
    (gb2_ : PySem.W.specialIn K (.ref B2) "__getattribute__" = some (some (.builtin "type.__getattribute__")))
    (vb2_ : PySem.W.findCls K (.ref B2) mcB2 "WORDS" = some (.val (.ref wa2)))
    (fw2_ : PySem.W.findIn K (.ref B2) "WORDS" = some (some (.ref wa2)))
    (q_wa2 : K.lookup wa2 = some ⟨.type "tuple", ddt118, .seq #[.str "keep" u119, .str "clear1" u120, .str "still" u121] nnt118, sst118⟩)
    (sw2_ : PySem.W.specialIn K (.ref wa2) "__get__" = some none)
    (mb3_ : PySem.W.typeIn K (.ref B3) = some mcB3)
    (rb3_ : PySem.W.readsIn K B3 mcB3 = true)
    (gb3_ : PySem.W.specialIn K (.ref B3) "__getattribute__" = some (some (.builtin "type.__getattribute__")))
    (vb3_ : PySem.W.findCls K (.ref B3) mcB3 "WORDS" = some (.val (.ref wa3)))
    (fw3_ : PySem.W.findIn K (.ref B3) "WORDS" = some (some (.ref wa3)))
    (q_wa3 : K.lookup wa3 = some ⟨.type "tuple", ddt122, .seq #[.str "keep" u123, .str "clear0" u124, .str "still" u125] nnt122, sst122⟩)
    (sw3_ : PySem.W.specialIn K (.ref wa3) "__get__" = some none)
    (mb4_ : PySem.W.typeIn K (.ref B4) = some mcB4)
    (rb4_ : PySem.W.readsIn K B4 mcB4 = true)
    (gb4_ : PySem.W.specialIn K (.ref B4) "__getattribute__" = some (some (.builtin "type.__getattribute__")))
    (vb4_ : PySem.W.findCls K (.ref B4) mcB4 "WORDS" = some (.val (.ref wa4)))
    (fw4_ : PySem.W.findIn K (.ref B4) "WORDS" = some (some (.ref wa4)))
    (q_wa4 : K.lookup wa4 = some ⟨.type "tuple", ddt126, .seq #[.str "keep" u127, .str "set1" u128, .str "still" u129] nnt126, sst126⟩)
    (sw4_ : PySem.W.specialIn K (.ref wa4) "__get__" = some none)
    (mb5_ : PySem.W.typeIn K (.ref B5) = some mcB5)
    (rb5_ : PySem.W.readsIn K B5 mcB5 = true)
    (gb5_ : PySem.W.specialIn K (.ref B5) "__getattribute__" = some (some (.builtin "type.__getattribute__")))
    (vb5_ : PySem.W.findCls K (.ref B5) mcB5 "WORDS" = some (.val (.ref wa5)))
    (fw5_ : PySem.W.findIn K (.ref B5) "WORDS" = some (some (.ref wa5)))
    (q_wa5 : K.lookup wa5 = some ⟨.type "tuple", ddt130, .seq #[.str "keep" u131, .str "flip1" u132, .str "still" u133] nnt130, sst130⟩)
    (sw5_ : PySem.W.specialIn K (.ref wa5) "__get__" = some none)
    (mb6_ : PySem.W.typeIn K (.ref B6) = some mcB6)
    (rb6_ : PySem.W.readsIn K B6 mcB6 = true)
    (gb6_ : PySem.W.specialIn K (.ref B6) "__getattribute__" = some (some (.builtin "type.__getattribute__")))
    (vb6_ : PySem.W.findCls K (.ref B6) mcB6 "WORDS" = some (.val (.ref wa6)))
    (fw6_ : PySem.W.findIn K (.ref B6) "WORDS" = some (some (.ref wa6)))
    (q_wa6 : K.lookup wa6 = some ⟨.type "tuple", ddt134, .seq #[.str "keep" u135, .str "once" u136, .str "still" u137] nnt134, sst134⟩)
    (sw6_ : PySem.W.specialIn K (.ref wa6) "__get__" = some none)
    (mb7_ : PySem.W.typeIn K (.ref B7) = some mcB7)
    (rb7_ : PySem.W.readsIn K B7 mcB7 = true)
    (gb7_ : PySem.W.specialIn K (.ref B7) "__getattribute__" = some (some (.builtin "type.__getattribute__")))
    (vb7_ : PySem.W.findCls K (.ref B7) mcB7 "WORDS" = some (.val (.ref wa7)))
    (fw7_ : PySem.W.findIn K (.ref B7) "WORDS" = some (some (.ref wa7)))
    (q_wa7 : K.lookup wa7 = some ⟨.type "tuple", ddt138, .seq #[.str "keep" u139, .str "none" u140, .str "still" u141] nnt138, sst138⟩)
    (sw7_ : PySem.W.specialIn K (.ref wa7) "__get__" = some none)
    (mb8_ : PySem.W.typeIn K (.ref B8) = some mcB8)
    (rb8_ : PySem.W.readsIn K B8 mcB8 = true)
    (gb8_ : PySem.W.specialIn K (.ref B8) "__getattribute__" = some (some (.builtin "type.__getattribute__")))
    (vb8_ : PySem.W.findCls K (.ref B8) mcB8 "WORDS" = some (.val (.ref wa8)))
    (fw8_ : PySem.W.findIn K (.ref B8) "WORDS" = some (some (.ref wa8)))
    (q_wa8 : K.lookup wa8 = some ⟨.type "tuple", ddt142, .seq #[.str "keep" u143, .str "store" u144, .str "raise" u145] nnt142, sst142⟩)
    (sw8_ : PySem.W.specialIn K (.ref wa8) "__get__" = some none)
    (mb9_ : PySem.W.typeIn K (.ref B9) = some mcB9)
    (rb9_ : PySem.W.readsIn K B9 mcB9 = true)
    (gb9_ : PySem.W.specialIn K (.ref B9) "__getattribute__" = some (some (.builtin "type.__getattribute__")))
    (vb9_ : PySem.W.findCls K (.ref B9) mcB9 "WORDS" = some (.val (.ref wa9)))
    (fw9_ : PySem.W.findIn K (.ref B9) "WORDS" = some (some (.ref wa9)))
    (q_wa9 : K.lookup wa9 = some ⟨.type "tuple", ddt146, .seq #[.str "keep" u147, .str "store" u148, .str "end" u149] nnt146, sst146⟩)
    (sw9_ : PySem.W.specialIn K (.ref wa9) "__get__" = some none)
    (mb10_ : PySem.W.typeIn K (.ref B10) = some mcB10)
    (rb10_ : PySem.W.readsIn K B10 mcB10 = true)
    (gb10_ : PySem.W.specialIn K (.ref B10) "__getattribute__" = some (some (.builtin "type.__getattribute__")))
    (vb10_ : PySem.W.findCls K (.ref B10) mcB10 "WORDS" = some (.val (.ref wa10)))
    (fw10_ : PySem.W.findIn K (.ref B10) "WORDS" = some (some (.ref wa10)))
    (q_wa10 : K.lookup wa10 = some ⟨.type "tuple", ddt150, .seq #[.str "keep" u151, .str "store" u152, .str "drift" u153] nnt150, sst150⟩)
    (sw10_ : PySem.W.specialIn K (.ref wa10) "__get__" = some none)
    (mb11_ : PySem.W.typeIn K (.ref B11) = some mcB11)
    (rb11_ : PySem.W.readsIn K B11 mcB11 = true)
    (gb11_ : PySem.W.specialIn K (.ref B11) "__getattribute__" = some (some (.builtin "type.__getattribute__")))
    (vb11_ : PySem.W.findCls K (.ref B11) mcB11 "WORDS" = some (.val (.ref wa11)))
    (fw11_ : PySem.W.findIn K (.ref B11) "WORDS" = some (some (.ref wa11)))
    (q_wa11 : K.lookup wa11 = some ⟨.type "tuple", ddt154, .seq #[.str "keep" u155, .str "clear1" u156, .str "raise" u157] nnt154, sst154⟩)
    (sw11_ : PySem.W.specialIn K (.ref wa11) "__get__" = some none)
    (mb12_ : PySem.W.typeIn K (.ref B12) = some mcB12)
    (rb12_ : PySem.W.readsIn K B12 mcB12 = true)
    (gb12_ : PySem.W.specialIn K (.ref B12) "__getattribute__" = some (some (.builtin "type.__getattribute__")))
    (vb12_ : PySem.W.findCls K (.ref B12) mcB12 "WORDS" = some (.val (.ref wa12)))
    (fw12_ : PySem.W.findIn K (.ref B12) "WORDS" = some (some (.ref wa12)))
    (q_wa12 : K.lookup wa12 = some ⟨.type "tuple", ddt158, .seq #[.str "take" u159, .str "none" u160, .str "raise" u161] nnt158, sst158⟩)
    (sw12_ : PySem.W.specialIn K (.ref wa12) "__get__" = some none)
    (mb13_ : PySem.W.typeIn K (.ref B13) = some mcB13)
    (rb13_ : PySem.W.readsIn K B13 mcB13 = true)
    (gb13_ : PySem.W.specialIn K (.ref B13) "__getattribute__" = some (some (.builtin "type.__getattribute__")))
    (vb13_ : PySem.W.findCls K (.ref B13) mcB13 "WORDS" = some (.val (.ref wa13)))
    (fw13_ : PySem.W.findIn K (.ref B13) "WORDS" = some (some (.ref wa13)))
    (q_wa13 : K.lookup wa13 = some ⟨.type "tuple", ddt162, .seq #[.str "keep" u163, .str "set1" u164, .str "end" u165] nnt162, sst162⟩)
    (sw13_ : PySem.W.specialIn K (.ref wa13) "__get__" = some none)
    (mb14_ : PySem.W.typeIn K (.ref B14) = some mcB14)
    (rb14_ : PySem.W.readsIn K B14 mcB14 = true)
    (gb14_ : PySem.W.specialIn K (.ref B14) "__getattribute__" = some (some (.builtin "type.__getattribute__")))
    (vb14_ : PySem.W.findCls K (.ref B14) mcB14 "WORDS" = some (.val (.ref wa14)))
    (fw14_ : PySem.W.findIn K (.ref B14) "WORDS" = some (some (.ref wa14)))
    (q_wa14 : K.lookup wa14 = some ⟨.type "tuple", ddt166, .seq #[.str "keep" u167, .str "none" u168, .str "drift" u169] nnt166, sst166⟩)
    (sw14_ : PySem.W.specialIn K (.ref wa14) "__get__" = some none)
    (mb15_ : PySem.W.typeIn K (.ref B15) = some mcB15)
    (rb15_ : PySem.W.readsIn K B15 mcB15 = true)
    (gb15_ : PySem.W.specialIn K (.ref B15) "__getattribute__" = some (some (.builtin "type.__getattribute__")))
    (vb15_ : PySem.W.findCls K (.ref B15) mcB15 "WORDS" = some (.val (.ref wa15)))
    (fw15_ : PySem.W.findIn K (.ref B15) "WORDS" = some (some (.ref wa15)))
    (q_wa15 : K.lookup wa15 = some ⟨.type "tuple", ddt170, .seq #[.str "take" u171, .str "once" u172, .str "still" u173] nnt170, sst170⟩)
    (sw15_ : PySem.W.specialIn K (.ref wa15) "__get__" = some none) :
    ∃ fd : FuncData, (∀ (s : Shared) (u : Value), BindsTo s fd ⟨[u], []⟩ [("_law_script", u)]) ∧
      ∀ base : Heap, K.In base → base.Ns mainGlobals mg → Gd l.prog w K mg base CX0 9 fa fd ["_law_script"] (spLaw K) := by
  have e := hfa.symm.trans (PySem.W.mg_of X G n_law)
  cases e
  have B : Law.B1 mg := ⟨PySem.W.mg_none_of X G no_int, PySem.W.mg_none_of X G no_len, PySem.W.mg_none_of X G no_abs, PySem.W.mg_none_of X G no_list, PySem.W.mg_none_of X G no_repr, PySem.W.mg_none_of X G no_range, PySem.W.mg_none_of X G no_str, PySem.W.mg_none_of X G no_isinstance, PySem.W.mg_none_of X G no_bool, PySem.W.mg_none_of X G no_tuple⟩
  have T : KT K w mg C aW aI mc := {
    g_Kind := PySem.W.mg_of X G n_Kind
    g_SPENT := ⟨_, PySem.W.mg_of X G n_SPENT⟩
    g_WRITES := PySem.W.mg_of X G n_WRITES
    g_INVERTED := PySem.W.mg_of X G n_INVERTED
    g_isinstance := PySem.W.mg_none_of X G no_isinstance
    cl := ⟨pg, hd, po, fd_C_setattr⟩
    nR := fd_C_reading
    nW := fd_C_writing
    nD := fd_C_device
    nS := fd_C_states
    rd := ⟨rdI, gaI⟩
    cR := ⟨aR, ⟨v_READINGS, rfl⟩, ktup q_aR rfl (.cons ⟨_, rfl⟩ (.cons ⟨_, rfl⟩ (.nil)))⟩
    cW := ⟨bW, ⟨v_WRITINGS, rfl⟩, ktup q_bW rfl (.cons ⟨_, rfl⟩ (.cons ⟨_, rfl⟩ (.cons ⟨_, rfl⟩ (.cons ⟨_, rfl⟩ (.cons ⟨_, rfl⟩ (.cons ⟨_, rfl⟩ (.cons ⟨_, rfl⟩ (.nil))))))))⟩
    cD := ⟨aD, ⟨v_DEVICES, rfl⟩, ktup q_aD rfl (.cons ⟨_, rfl⟩ (.cons ⟨_, rfl⟩ (.cons ⟨_, rfl⟩ (.cons ⟨_, rfl⟩ (.nil)))))⟩
    tW := fun x hx => by
      simp only [WR, List.mem_cons, List.not_mem_nil, or_false] at hx
      rcases hx with rfl | rfl | rfl | rfl | rfl | rfl | rfl
      · exact ⟨w_store, w_storea, w_storeb, ⟨esW, nW_, _, lW, kW, g_w_store, rfl⟩, ktup q_w_store rfl (.cons rfl (.cons rfl .nil)), ktup q_w_storea rfl (.cons ⟨_, rfl⟩ (.cons ⟨_, rfl⟩ .nil)), ktup q_w_storeb rfl (.cons ⟨_, rfl⟩ (.cons ⟨_, rfl⟩ .nil))⟩
      · exact ⟨w_clear1, w_clear1a, w_clear1b, ⟨esW, nW_, _, lW, kW, g_w_clear1, rfl⟩, ktup q_w_clear1 rfl (.cons rfl (.cons rfl .nil)), ktup q_w_clear1a rfl (.cons ⟨_, rfl⟩ (.cons ⟨_, rfl⟩ .nil)), ktup q_w_clear1b rfl (.cons ⟨_, rfl⟩ (.cons ⟨_, rfl⟩ .nil))⟩
      · exact ⟨w_clear0, w_clear0a, w_clear0b, ⟨esW, nW_, _, lW, kW, g_w_clear0, rfl⟩, ktup q_w_clear0 rfl (.cons rfl (.cons rfl .nil)), ktup q_w_clear0a rfl (.cons ⟨_, rfl⟩ (.cons ⟨_, rfl⟩ .nil)), ktup q_w_clear0b rfl (.cons ⟨_, rfl⟩ (.cons ⟨_, rfl⟩ .nil))⟩
      · exact ⟨w_set1, w_set1a, w_set1b, ⟨esW, nW_, _, lW, kW, g_w_set1, rfl⟩, ktup q_w_set1 rfl (.cons rfl (.cons rfl .nil)), ktup q_w_set1a rfl (.cons ⟨_, rfl⟩ (.cons ⟨_, rfl⟩ .nil)), ktup q_w_set1b rfl (.cons ⟨_, rfl⟩ (.cons ⟨_, rfl⟩ .nil))⟩
      · exact ⟨w_flip1, w_flip1a, w_flip1b, ⟨esW, nW_, _, lW, kW, g_w_flip1, rfl⟩, ktup q_w_flip1 rfl (.cons rfl (.cons rfl .nil)), ktup q_w_flip1a rfl (.cons ⟨_, rfl⟩ (.cons ⟨_, rfl⟩ .nil)), ktup q_w_flip1b rfl (.cons ⟨_, rfl⟩ (.cons ⟨_, rfl⟩ .nil))⟩
      · exact ⟨w_once, w_oncea, w_onceb, ⟨esW, nW_, _, lW, kW, g_w_once, rfl⟩, ktup q_w_once rfl (.cons rfl (.cons rfl .nil)), ktup q_w_oncea rfl (.cons ⟨_, rfl⟩ (.cons ⟨_, rfl⟩ .nil)), ktup q_w_onceb rfl (.cons ⟨_, rfl⟩ (.cons ⟨_, rfl⟩ .nil))⟩
      · exact ⟨w_none, w_nonea, w_noneb, ⟨esW, nW_, _, lW, kW, g_w_none, rfl⟩, ktup q_w_none rfl (.cons rfl (.cons rfl .nil)), ktup q_w_nonea rfl (.cons ⟨_, rfl⟩ (.cons ⟨_, rfl⟩ .nil)), ktup q_w_noneb rfl (.cons ⟨_, rfl⟩ (.cons ⟨_, rfl⟩ .nil))⟩
    tI := fun x hx => by
      simp only [DV, List.mem_cons, List.not_mem_nil, or_false] at hx
      rcases hx with rfl | rfl | rfl | rfl
      · exact ⟨i_still, ⟨esI, nI_, _, lI, kI, g_i_still, rfl⟩, ktup q_i_still rfl (.nil)⟩
      · exact ⟨i_raise, ⟨esI, nI_, _, lI, kI, g_i_raise, rfl⟩, ktup q_i_raise rfl (.cons ⟨_, rfl⟩ (.nil))⟩
      · exact ⟨i_end, ⟨esI, nI_, _, lI, kI, g_i_end, rfl⟩, ktup q_i_end rfl (.cons ⟨_, rfl⟩ (.nil))⟩
      · exact ⟨i_drift, ⟨esI, nI_, _, lI, kI, g_i_drift, rfl⟩, ktup q_i_drift rfl (.cons ⟨_, rfl⟩ (.cons ⟨_, rfl⟩ (.nil)))⟩
    isC := fd_C_class
    isG := isG
    isT := isT
    isM := isM }
  have TE2 : ErrC l.prog K E2 fI2 "InvalidWord.__init__" "value" "value" (defArgs s_InvalidWord___init__) (defBody s_InvalidWord___init__) (defScope s_InvalidWord___init__) := {
    cls := ⟨⟨_, _, _, _, _, _, _, _, _, _, _, _, _, _, _, clE2, veE2⟩, fd_E2_setattr, sB2, ty2, kE2⟩
    ini := iniE2
    fn := fnE2
    fun_ := ⟨_, _, _, _, _, _, _, _, _, _, _, _, _, _, _, _, _, _, _, lE2, cE2, lC2, vE2, fE2, lcc2⟩
    self_ := mE2
    up := sup_up clE2 cBE mBE2 fBE
    sub := sV2
    opq := opq
    nosup := no_super
    top := topE
    nofld := fd_E2_value }
  refine ⟨PySem.W.fnOf "law" "law" (defArgs s_law) (defBody s_law) (defScope s_law) .none kVv109 dcv109 pmv109 anv109 cdv109 ctv109, fun s v => .of_eq rfl, fun base _ _ => ?_⟩
  have Dis_int := defAt_of X G n_is_int l_is_int c_is_int k_is_int bd_is_int
  have Dfull_word := defAt_of X G n_full_word l_full_word c_full_word k_full_word bd_full_word
  have Dis_word := defAt_of X G n_is_word l_is_word c_is_word k_is_word bd_is_word
  have Dcheck_word := defAt_of X G n_check_word l_check_word c_check_word k_check_word bd_check_word
  have D_law_pen := defAt_of X G n__law_pen l__law_pen c__law_pen k__law_pen bd__law_pen
  have D_law_draw := defAt_of X G n__law_draw l__law_draw c__law_draw k__law_draw bd__law_draw
  have D_law_write := defAt_of X G n__law_write l__law_write c__law_write k__law_write bd__law_write
  have D_law_read := defAt_of X G n__law_read l__law_read c__law_read k__law_read bd__law_read
  have D_law_deeds := defAt_of X G n__law_deeds l__law_deeds c__law_deeds k__law_deeds bd__law_deeds
  have D_law_plain_bit := defAt_of X G n__law_plain_bit l__law_plain_bit c__law_plain_bit k__law_plain_bit bd__law_plain_bit
  have D_law_bit := defAt_of X G n__law_bit l__law_bit c__law_bit k__law_bit bd__law_bit
  have D_law_words_of := defAt_of X G n__law_words_of l__law_words_of c__law_words_of k__law_words_of bd__law_words_of
  have D_law_marks := defAt_of X G n__law_marks l__law_marks c__law_marks k__law_marks bd__law_marks
  have D_law_above := defAt_of X G n__law_above l__law_above c__law_above k__law_above bd__law_above
  have D_law_done := defAt_of X G n__law_done l__law_done c__law_done k__law_done bd__law_done
  have M_init := metAt_of a_Kind___init__ i_Kind___init__ l_Kind___init__ c_Kind___init__ k_Kind___init__ bd_Kind___init__
  have M_after_read := metAt_of a_Kind_after_read i_Kind_after_read l_Kind_after_read c_Kind_after_read k_Kind_after_read bd_Kind_after_read
  have M_after_write := metAt_of a_Kind_after_write i_Kind_after_write l_Kind_after_write c_Kind_after_write k_Kind_after_write bd_Kind_after_write
  have M_unguarded := metAt_of a_Kind_unguarded i_Kind_unguarded l_Kind_unguarded c_Kind_unguarded k_Kind_unguarded bd_Kind_unguarded
  have M_deeds := metAt_of a_Kind_deeds i_Kind_deeds l_Kind_deeds c_Kind_deeds k_Kind_deeds bd_Kind_deeds
  have M_eq := metAt_of a_Kind___eq__ i_Kind___eq__ l_Kind___eq__ c_Kind___eq__ k_Kind___eq__ bd_Kind___eq__
  obtain ⟨fd1, x1, F1, b1, G1⟩ := ok_IN (P := l.prog) (base := base) M_init T
  obtain ⟨fd2, x2, F2, b2, G2⟩ := ok_AR (P := l.prog) (base := base) M_after_read T
  obtain ⟨fd3, x3, F3, b3, G3⟩ := ok_UN (P := l.prog) (base := base) M_unguarded T
  obtain ⟨fd4, x4, F4, b4, G4⟩ := ok_AW (P := l.prog) (base := base) M_after_write T ⟨fd3, _, x3, b3, G3⟩
  obtain ⟨fd5, x5, F5, b5, G5⟩ := ok_DE (P := l.prog) (base := base) M_deeds T
  obtain ⟨fd6, x6, F6, b6, G6⟩ := ok_EQ (P := l.prog) (base := base) M_eq T
  have mAR : Met l.prog w K mg base 1 C "after_read" _ (spAR C) := ⟨fd2, _, x2, b2, G2⟩
  have mAW : Met l.prog w K mg base 2 C "after_write" _ (spAW C) := ⟨fd4, _, x4, b4, G4⟩
  have mDE : Met l.prog w K mg base 1 C "deeds" _ (spDE C) := ⟨fd5, _, x5, b5, G5⟩
  have cInt := ok_is_int (P := l.prog) (w := w) (base := base) Dis_int B
  have cFw := ok_full_word (P := l.prog) (w := w) (base := base) Dfull_word
  have cIw := ok_is_word (P := l.prog) (w := w) (base := base) Dis_word cInt cFw
  have cCw := ok_check_word (P := l.prog) (w := w) (base := base) Dcheck_word (PySem.W.mg_of X G n_InvalidWord) TE2 errX2 cIw
  have cDr := ok_draw (P := l.prog) (w := w) (base := base) D_law_draw (bi_of B)
  have cPn := ok_pen (P := l.prog) (w := w) (base := base) D_law_pen (bi_of B)
  have cWo := ok_words (P := l.prog) (w := w) (base := base) D_law_words_of B
  let CL : List Addr := [B0, B1, B2, B3, B4, B5, B6, B7, B8, B9, B10, B11, B12, B13, B14, B15, B16]
  have TT : TB K CL := {
    cl := fun n C' hC => match n, hC with
    | 0, hC => by
      obtain rfl : B0 = C' := Option.some.inj hC
      exact ⟨pg0, hd0, po0, fd_B0_setattr⟩
    | 1, hC => by
      obtain rfl : B1 = C' := Option.some.inj hC
      exact ⟨pg1, hd1, po1, fd_B1_setattr⟩
    | 2, hC => by
      obtain rfl : B2 = C' := Option.some.inj hC
      exact ⟨pg2, hd2, po2, fd_B2_setattr⟩
    | 3, hC => by
      obtain rfl : B3 = C' := Option.some.inj hC
      exact ⟨pg3, hd3, po3, fd_B3_setattr⟩
    | 4, hC => by
      obtain rfl : B4 = C' := Option.some.inj hC
      exact ⟨pg4, hd4, po4, fd_B4_setattr⟩
    | 5, hC => by
      obtain rfl : B5 = C' := Option.some.inj hC
      exact ⟨pg5, hd5, po5, fd_B5_setattr⟩
    | 6, hC => by
      obtain rfl : B6 = C' := Option.some.inj hC
      exact ⟨pg6, hd6, po6, fd_B6_setattr⟩
    | 7, hC => by
      obtain rfl : B7 = C' := Option.some.inj hC
      exact ⟨pg7, hd7, po7, fd_B7_setattr⟩
    | 8, hC => by
      obtain rfl : B8 = C' := Option.some.inj hC
      exact ⟨pg8, hd8, po8, fd_B8_setattr⟩
    | 9, hC => by
      obtain rfl : B9 = C' := Option.some.inj hC
      exact ⟨pg9, hd9, po9, fd_B9_setattr⟩
    | 10, hC => by
      obtain rfl : B10 = C' := Option.some.inj hC
      exact ⟨pg10, hd10, po10, fd_B10_setattr⟩
    | 11, hC => by
      obtain rfl : B11 = C' := Option.some.inj hC
      exact ⟨pg11, hd11, po11, fd_B11_setattr⟩
    | 12, hC => by
      obtain rfl : B12 = C' := Option.some.inj hC
      exact ⟨pg12, hd12, po12, fd_B12_setattr⟩
    | 13, hC => by
      obtain rfl : B13 = C' := Option.some.inj hC
      exact ⟨pg13, hd13, po13, fd_B13_setattr⟩
    | 14, hC => by
      obtain rfl : B14 = C' := Option.some.inj hC
      exact ⟨pg14, hd14, po14, fd_B14_setattr⟩
    | 15, hC => by
      obtain rfl : B15 = C' := Option.some.inj hC
      exact ⟨pg15, hd15, po15, fd_B15_setattr⟩
    | 16, hC => by
      obtain rfl : B16 = C' := Option.some.inj hC
      exact ⟨pg16, hd16, po16, fd_B16_setattr⟩
    | n + 17, hC => nomatch hC
    nS := fun n C' hC => match n, hC with
    | 0, hC => by
      obtain rfl : B0 = C' := Option.some.inj hC
      exact fd_B0_state
    | 1, hC => by
      obtain rfl : B1 = C' := Option.some.inj hC
      exact fd_B1_state
    | 2, hC => by
      obtain rfl : B2 = C' := Option.some.inj hC
      exact fd_B2_state
    | 3, hC => by
      obtain rfl : B3 = C' := Option.some.inj hC
      exact fd_B3_state
    | 4, hC => by
      obtain rfl : B4 = C' := Option.some.inj hC
      exact fd_B4_state
    | 5, hC => by
      obtain rfl : B5 = C' := Option.some.inj hC
      exact fd_B5_state
    | 6, hC => by
      obtain rfl : B6 = C' := Option.some.inj hC
      exact fd_B6_state
    | 7, hC => by
      obtain rfl : B7 = C' := Option.some.inj hC
      exact fd_B7_state
    | 8, hC => by
      obtain rfl : B8 = C' := Option.some.inj hC
      exact fd_B8_state
    | 9, hC => by
      obtain rfl : B9 = C' := Option.some.inj hC
      exact fd_B9_state
    | 10, hC => by
      obtain rfl : B10 = C' := Option.some.inj hC
      exact fd_B10_state
    | 11, hC => by
      obtain rfl : B11 = C' := Option.some.inj hC
      exact fd_B11_state
    | 12, hC => by
      obtain rfl : B12 = C' := Option.some.inj hC
      exact fd_B12_state
    | 13, hC => by
      obtain rfl : B13 = C' := Option.some.inj hC
      exact fd_B13_state
    | 14, hC => by
      obtain rfl : B14 = C' := Option.some.inj hC
      exact fd_B14_state
    | 15, hC => by
      obtain rfl : B15 = C' := Option.some.inj hC
      exact fd_B15_state
    | 16, hC => by
      obtain rfl : B16 = C' := Option.some.inj hC
      exact fd_B16_state
    | n + 17, hC => nomatch hC
    nK := fun C' hC => by
      obtain rfl : B16 = C' := Option.some.inj hC
      exact fd_B16_kind }
  have FrB := fun_mk (st := s_Bit_read) l_rB c_rB k_rB
  have FrK := fun_mk (st := s_KindBit_read) l_rK c_rK k_rK
  have FwB := fun_mk (st := s_Bit_write) l_wB c_wB k_wB
  have FwC := fun_mk (st := s_ClearedBit_write) l_wC c_wC k_wC
  have FwZ := fun_mk (st := s_ZeroClearedBit_write) l_wZ c_wZ k_wZ
  have FwS := fun_mk (st := s_SetBit_write) l_wS c_wS k_wS
  have FwF := fun_mk (st := s_FlippedBit_write) l_wF c_wF k_wF
  have FwO := fun_mk (st := s_OnceBit_write) l_wO c_wO k_wO
  have FwD := fun_mk (st := s_DeafBit_write) l_wD c_wD k_wD
  have FwK := fun_mk (st := s_KindBit_write) l_wK c_wK k_wK
  have FdB := fun_mk (st := s_Bit_deed) l_dB c_dB k_dB
  have FdK := fun_mk (st := s_KindBit_deed) l_dK c_dK k_dK
  have FN := fun_mk (st := s_Bit_now) l_N c_N k_N
  have FS := fun_mk (st := s_Bit_state) l_S c_S k_S
  have dNow : DProp l.prog w K mg base 1 CL "now" (spNow CL) := fun n C' hC => match n, hC with
    | 0, hC => by
      obtain rfl : B0 = C' := Option.some.inj hC
      exact ⟨pN, gN, _, TT.cl 0 _ rfl, ⟨nw0, spN, tN, rsN, rec_at lN vN⟩, FN.binds bd_Bit_now, ok_now FN TT⟩
    | 1, hC => by
      obtain rfl : B1 = C' := Option.some.inj hC
      exact ⟨pN, gN, _, TT.cl 1 _ rfl, ⟨nw1, spN, tN, rsN, rec_at lN vN⟩, FN.binds bd_Bit_now, ok_now FN TT⟩
    | 2, hC => by
      obtain rfl : B2 = C' := Option.some.inj hC
      exact ⟨pN, gN, _, TT.cl 2 _ rfl, ⟨nw2, spN, tN, rsN, rec_at lN vN⟩, FN.binds bd_Bit_now, ok_now FN TT⟩
    | 3, hC => by
      obtain rfl : B3 = C' := Option.some.inj hC
      exact ⟨pN, gN, _, TT.cl 3 _ rfl, ⟨nw3, spN, tN, rsN, rec_at lN vN⟩, FN.binds bd_Bit_now, ok_now FN TT⟩
    | 4, hC => by
      obtain rfl : B4 = C' := Option.some.inj hC
      exact ⟨pN, gN, _, TT.cl 4 _ rfl, ⟨nw4, spN, tN, rsN, rec_at lN vN⟩, FN.binds bd_Bit_now, ok_now FN TT⟩
    | 5, hC => by
      obtain rfl : B5 = C' := Option.some.inj hC
      exact ⟨pN, gN, _, TT.cl 5 _ rfl, ⟨nw5, spN, tN, rsN, rec_at lN vN⟩, FN.binds bd_Bit_now, ok_now FN TT⟩
    | 6, hC => by
      obtain rfl : B6 = C' := Option.some.inj hC
      exact ⟨pN, gN, _, TT.cl 6 _ rfl, ⟨nw6, spN, tN, rsN, rec_at lN vN⟩, FN.binds bd_Bit_now, ok_now FN TT⟩
    | 7, hC => by
      obtain rfl : B7 = C' := Option.some.inj hC
      exact ⟨pN, gN, _, TT.cl 7 _ rfl, ⟨nw7, spN, tN, rsN, rec_at lN vN⟩, FN.binds bd_Bit_now, ok_now FN TT⟩
    | 8, hC => by
      obtain rfl : B8 = C' := Option.some.inj hC
      exact ⟨pN, gN, _, TT.cl 8 _ rfl, ⟨nw8, spN, tN, rsN, rec_at lN vN⟩, FN.binds bd_Bit_now, ok_now FN TT⟩
    | 9, hC => by
      obtain rfl : B9 = C' := Option.some.inj hC
      exact ⟨pN, gN, _, TT.cl 9 _ rfl, ⟨nw9, spN, tN, rsN, rec_at lN vN⟩, FN.binds bd_Bit_now, ok_now FN TT⟩
    | 10, hC => by
      obtain rfl : B10 = C' := Option.some.inj hC
      exact ⟨pN, gN, _, TT.cl 10 _ rfl, ⟨nw10, spN, tN, rsN, rec_at lN vN⟩, FN.binds bd_Bit_now, ok_now FN TT⟩
    | 11, hC => by
      obtain rfl : B11 = C' := Option.some.inj hC
      exact ⟨pN, gN, _, TT.cl 11 _ rfl, ⟨nw11, spN, tN, rsN, rec_at lN vN⟩, FN.binds bd_Bit_now, ok_now FN TT⟩
    | 12, hC => by
      obtain rfl : B12 = C' := Option.some.inj hC
      exact ⟨pN, gN, _, TT.cl 12 _ rfl, ⟨nw12, spN, tN, rsN, rec_at lN vN⟩, FN.binds bd_Bit_now, ok_now FN TT⟩
    | 13, hC => by
      obtain rfl : B13 = C' := Option.some.inj hC
      exact ⟨pN, gN, _, TT.cl 13 _ rfl, ⟨nw13, spN, tN, rsN, rec_at lN vN⟩, FN.binds bd_Bit_now, ok_now FN TT⟩
    | 14, hC => by
      obtain rfl : B14 = C' := Option.some.inj hC
      exact ⟨pN, gN, _, TT.cl 14 _ rfl, ⟨nw14, spN, tN, rsN, rec_at lN vN⟩, FN.binds bd_Bit_now, ok_now FN TT⟩
    | 15, hC => by
      obtain rfl : B15 = C' := Option.some.inj hC
      exact ⟨pN, gN, _, TT.cl 15 _ rfl, ⟨nw15, spN, tN, rsN, rec_at lN vN⟩, FN.binds bd_Bit_now, ok_now FN TT⟩
    | 16, hC => by
      obtain rfl : B16 = C' := Option.some.inj hC
      exact ⟨pN, gN, _, TT.cl 16 _ rfl, ⟨nw16, spN, tN, rsN, rec_at lN vN⟩, FN.binds bd_Bit_now, ok_now FN TT⟩
    | n + 17, hC => nomatch hC
  have dSta : DProp l.prog w K mg base 1 CL "state" (spSta CL) := fun n C' hC => match n, hC with
    | 0, hC => by
      obtain rfl : B0 = C' := Option.some.inj hC
      exact ⟨pS, gS, _, TT.cl 0 _ rfl, ⟨st0, spS, tS_p, rsS, rec_at lS vS⟩, FS.binds bd_Bit_state, ok_sta FS TT⟩
    | 1, hC => by
      obtain rfl : B1 = C' := Option.some.inj hC
      exact ⟨pS, gS, _, TT.cl 1 _ rfl, ⟨st1, spS, tS_p, rsS, rec_at lS vS⟩, FS.binds bd_Bit_state, ok_sta FS TT⟩
    | 2, hC => by
      obtain rfl : B2 = C' := Option.some.inj hC
      exact ⟨pS, gS, _, TT.cl 2 _ rfl, ⟨st2, spS, tS_p, rsS, rec_at lS vS⟩, FS.binds bd_Bit_state, ok_sta FS TT⟩
    | 3, hC => by
      obtain rfl : B3 = C' := Option.some.inj hC
      exact ⟨pS, gS, _, TT.cl 3 _ rfl, ⟨st3, spS, tS_p, rsS, rec_at lS vS⟩, FS.binds bd_Bit_state, ok_sta FS TT⟩
    | 4, hC => by
      obtain rfl : B4 = C' := Option.some.inj hC
      exact ⟨pS, gS, _, TT.cl 4 _ rfl, ⟨st4, spS, tS_p, rsS, rec_at lS vS⟩, FS.binds bd_Bit_state, ok_sta FS TT⟩
    | 5, hC => by
      obtain rfl : B5 = C' := Option.some.inj hC
      exact ⟨pS, gS, _, TT.cl 5 _ rfl, ⟨st5, spS, tS_p, rsS, rec_at lS vS⟩, FS.binds bd_Bit_state, ok_sta FS TT⟩
    | 6, hC => by
      obtain rfl : B6 = C' := Option.some.inj hC
      exact ⟨pS, gS, _, TT.cl 6 _ rfl, ⟨st6, spS, tS_p, rsS, rec_at lS vS⟩, FS.binds bd_Bit_state, ok_sta FS TT⟩
    | 7, hC => by
      obtain rfl : B7 = C' := Option.some.inj hC
      exact ⟨pS, gS, _, TT.cl 7 _ rfl, ⟨st7, spS, tS_p, rsS, rec_at lS vS⟩, FS.binds bd_Bit_state, ok_sta FS TT⟩
    | 8, hC => by
      obtain rfl : B8 = C' := Option.some.inj hC
      exact ⟨pS, gS, _, TT.cl 8 _ rfl, ⟨st8, spS, tS_p, rsS, rec_at lS vS⟩, FS.binds bd_Bit_state, ok_sta FS TT⟩
    | 9, hC => by
      obtain rfl : B9 = C' := Option.some.inj hC
      exact ⟨pS, gS, _, TT.cl 9 _ rfl, ⟨st9, spS, tS_p, rsS, rec_at lS vS⟩, FS.binds bd_Bit_state, ok_sta FS TT⟩
    | 10, hC => by
      obtain rfl : B10 = C' := Option.some.inj hC
      exact ⟨pS, gS, _, TT.cl 10 _ rfl, ⟨st10, spS, tS_p, rsS, rec_at lS vS⟩, FS.binds bd_Bit_state, ok_sta FS TT⟩
    | 11, hC => by
      obtain rfl : B11 = C' := Option.some.inj hC
      exact ⟨pS, gS, _, TT.cl 11 _ rfl, ⟨st11, spS, tS_p, rsS, rec_at lS vS⟩, FS.binds bd_Bit_state, ok_sta FS TT⟩
    | 12, hC => by
      obtain rfl : B12 = C' := Option.some.inj hC
      exact ⟨pS, gS, _, TT.cl 12 _ rfl, ⟨st12, spS, tS_p, rsS, rec_at lS vS⟩, FS.binds bd_Bit_state, ok_sta FS TT⟩
    | 13, hC => by
      obtain rfl : B13 = C' := Option.some.inj hC
      exact ⟨pS, gS, _, TT.cl 13 _ rfl, ⟨st13, spS, tS_p, rsS, rec_at lS vS⟩, FS.binds bd_Bit_state, ok_sta FS TT⟩
    | 14, hC => by
      obtain rfl : B14 = C' := Option.some.inj hC
      exact ⟨pS, gS, _, TT.cl 14 _ rfl, ⟨st14, spS, tS_p, rsS, rec_at lS vS⟩, FS.binds bd_Bit_state, ok_sta FS TT⟩
    | 15, hC => by
      obtain rfl : B15 = C' := Option.some.inj hC
      exact ⟨pS, gS, _, TT.cl 15 _ rfl, ⟨st15, spS, tS_p, rsS, rec_at lS vS⟩, FS.binds bd_Bit_state, ok_sta FS TT⟩
    | 16, hC => by
      obtain rfl : B16 = C' := Option.some.inj hC
      exact ⟨pS, gS, _, TT.cl 16 _ rfl, ⟨st16, spS, tS_p, rsS, rec_at lS vS⟩, FS.binds bd_Bit_state, ok_sta FS TT⟩
    | n + 17, hC => nomatch hC
  have gSp : ∃ t, mg "SPENT" = some (.int 2 t) := ⟨_, PySem.W.mg_of X G n_SPENT⟩
  have FFrT : FunS l.prog K "read" "TakenBit.read" s_TakenBit_read frT B1 _ := ⟨⟨_, _, _, _, _, _, cdarT, ccrT, rfl, c_rT, { lkF := ⟨_, _, _, l_rT⟩, lkC := ⟨_, _, _, _, _, _, lCrT, vrT, flrT⟩, lkCell := ⟨_, _, _, lccrT⟩, cls := ⟨_, clrT⟩, opq := opq, nosup := no_super, top := topE }⟩, k_rT⟩
  have FFdR : FunS l.prog K "deed" "RaisedBit.deed" s_RaisedBit_deed fdR B8 _ := ⟨⟨_, _, _, _, _, _, cdadR, ccdR, rfl, c_dR, { lkF := ⟨_, _, _, l_dR⟩, lkC := ⟨_, _, _, _, _, _, lCdR, vdR, fldR⟩, lkCell := ⟨_, _, _, lccdR⟩, cls := ⟨_, cldR⟩, opq := opq, nosup := no_super, top := topE }⟩, k_dR⟩
  have FFdE : FunS l.prog K "deed" "EndedBit.deed" s_EndedBit_deed fdE B9 _ := ⟨⟨_, _, _, _, _, _, cdadE, ccdE, rfl, c_dE, { lkF := ⟨_, _, _, l_dE⟩, lkC := ⟨_, _, _, _, _, _, lCdE, vdE, fldE⟩, lkCell := ⟨_, _, _, lccdE⟩, cls := ⟨_, cldE⟩, opq := opq, nosup := no_super, top := topE }⟩, k_dE⟩
  have FFkI : FunS l.prog K "__init__" "KindBit.__init__" s_KindBit___init__ fkI B16 _ := ⟨⟨_, _, _, _, _, _, cdakI, cckI, rfl, c_kI, { lkF := ⟨_, _, _, l_kI⟩, lkC := ⟨_, _, _, _, _, _, lCkI, vkI, flkI⟩, lkCell := ⟨_, _, _, lcckI⟩, cls := ⟨_, clkI⟩, opq := opq, nosup := no_super, top := topE }⟩, k_kI⟩
  have U1_1_read : ∀ C', CL[1]? = some C' → UpAt K C' B1 "read" frB := fun C' hC => by
    obtain rfl : B1 = C' := Option.some.inj hC
    exact ⟨ui1_1_read, up1_1_read, i_rB, n_rB⟩
  have U12_1_read : ∀ C', CL[12]? = some C' → UpAt K C' B1 "read" frB := fun C' hC => by
    obtain rfl : B12 = C' := Option.some.inj hC
    exact ⟨ui12_1_read, up12_1_read, i_rB, n_rB⟩
  have U15_1_read : ∀ C', CL[15]? = some C' → UpAt K C' B1 "read" frB := fun C' hC => by
    obtain rfl : B15 = C' := Option.some.inj hC
    exact ⟨ui15_1_read, up15_1_read, i_rB, n_rB⟩
  have U8_8_deed : ∀ C', CL[8]? = some C' → UpAt K C' B8 "deed" fdB := fun C' hC => by
    obtain rfl : B8 = C' := Option.some.inj hC
    exact ⟨ui8_8_deed, up8_8_deed, i_dB, n_dB⟩
  have U11_8_deed : ∀ C', CL[11]? = some C' → UpAt K C' B8 "deed" fdB := fun C' hC => by
    obtain rfl : B11 = C' := Option.some.inj hC
    exact ⟨ui11_8_deed, up11_8_deed, i_dB, n_dB⟩
  have U12_8_deed : ∀ C', CL[12]? = some C' → UpAt K C' B8 "deed" fdB := fun C' hC => by
    obtain rfl : B12 = C' := Option.some.inj hC
    exact ⟨ui12_8_deed, up12_8_deed, i_dB, n_dB⟩
  have U10_8_deed : ∀ C', CL[10]? = some C' → UpAt K C' B8 "deed" fdE := fun C' hC => by
    obtain rfl : B10 = C' := Option.some.inj hC
    exact ⟨ui10_8_deed, up10_8_deed, i_dE, n_dE⟩
  have U14_8_deed : ∀ C', CL[14]? = some C' → UpAt K C' B8 "deed" fdE := fun C' hC => by
    obtain rfl : B14 = C' := Option.some.inj hC
    exact ⟨ui14_8_deed, up14_8_deed, i_dE, n_dE⟩
  have U9_9_deed : ∀ C', CL[9]? = some C' → UpAt K C' B9 "deed" fdB := fun C' hC => by
    obtain rfl : B9 = C' := Option.some.inj hC
    exact ⟨ui9_9_deed, up9_9_deed, i_dB, n_dB⟩
  have U13_9_deed : ∀ C', CL[13]? = some C' → UpAt K C' B9 "deed" fdB := fun C' hC => by
    obtain rfl : B13 = C' := Option.some.inj hC
    exact ⟨ui13_9_deed, up13_9_deed, i_dB, n_dB⟩
  have U16_16_init : ∀ C', CL[16]? = some C' → UpAt K C' B16 "__init__" fbI := fun C' hC => by
    obtain rfl : B16 = C' := Option.some.inj hC
    exact ⟨ui16_16_init, up16_16_init, i_bI, n_bI⟩
  have bS : ∀ {x q : Str} {st : Stmt} {kV doc pm cdv ct : Value} {an : Option Addr} {cc : Addr}, True := trivial
  have brT : Binds K (PySem.W.ksFn "read" "TakenBit.read" (defArgs s_TakenBit_read) (defBody s_TakenBit_read) (defScope s_TakenBit_read) .none kVrT dcrT pmrT anrT (.ref cdarT) ctrT ccrT) ["self"] [] := Binds.all fun us hl => match us, hl with | [_], _ => rfl
  have bdR : Binds K (PySem.W.ksFn "deed" "RaisedBit.deed" (defArgs s_RaisedBit_deed) (defBody s_RaisedBit_deed) (defScope s_RaisedBit_deed) .none kVdR dcdR pmdR andR (.ref cdadR) ctdR ccdR) ["self"] [] := Binds.all fun us hl => match us, hl with | [_], _ => rfl
  have bdE : Binds K (PySem.W.ksFn "deed" "EndedBit.deed" (defArgs s_EndedBit_deed) (defBody s_EndedBit_deed) (defScope s_EndedBit_deed) .none kVdE dcdE pmdE andE (.ref cdadE) ctdE ccdE) ["self"] [] := Binds.all fun us hl => match us, hl with | [_], _ => rfl
  have gRB : ∀ n, Gd l.prog w K mg base CX0 3 frB _ ["self"] (spNow CL n) := fun n => ok_bread FrB dNow
  have gRT : ∀ n, n < 16 → (wordsT n).1 = "take" → (∀ C', CL[n]? = some C' → UpAt K C' B1 "read" frB) → Gd l.prog w K mg base (L2.CX l.prog w) 4 frT _ ["self"] (spRd C CL n) := fun n hn hk U => ok_tread FFrT TT gSp hn hk U (Gd.up (gRB n)) (FrB.binds bd_Bit_read)
  have gDB : ∀ n, n < 16 → (wordsT n).2.2 = "still" → Gd l.prog w K mg base CX0 1 fdB _ ["self"] (spDd C CL n) := fun n hn hk => ok_bdeed FdB hn hk
  have gDB1 : ∀ (v : Int) n, deB (wordsT n).2.2 v = false → Gd l.prog w K mg base (L2.CX l.prog w) 4 fdB _ ["self"] (spD1 CL v n) := fun v n hk => (Gd.up (ok_bdeed1 (P := l.prog) (w := w) (mg := mg) (base := base) FdB hk)).mono (by decide)
  have gDE1 : ∀ n, (wordsT n).2.2 = "drift" → Gd l.prog w K mg base (L2.CX l.prog w) 4 fdE _ ["self"] (spD1 CL 1 n) := fun n hk => ok_edeed1 FFdE TT dNow hk
  have DRd : DMeth l.prog w K mg base (L2.CX l.prog w) 5 CL "read" ["self"] (spRd C CL) := fun n C' hC => match n, hC with
    | 0, hC => by
      obtain rfl : B0 = C' := Option.some.inj hC
      exact ⟨frB, _, TT.cl 0 _ rfl, ⟨rd0, i_rB, k_rB⟩, FrB.binds bd_Bit_read, (Gd.up (bread_keep (gRB 0) (by decide) rfl)).mono (by decide)⟩
    | 1, hC => by
      obtain rfl : B1 = C' := Option.some.inj hC
      exact ⟨frT, _, TT.cl 1 _ rfl, ⟨rd1, i_rT, k_rT⟩, brT, (gRT 1 (by decide) rfl U1_1_read).mono (by decide)⟩
    | 2, hC => by
      obtain rfl : B2 = C' := Option.some.inj hC
      exact ⟨frB, _, TT.cl 2 _ rfl, ⟨rd2, i_rB, k_rB⟩, FrB.binds bd_Bit_read, (Gd.up (bread_keep (gRB 2) (by decide) rfl)).mono (by decide)⟩
    | 3, hC => by
      obtain rfl : B3 = C' := Option.some.inj hC
      exact ⟨frB, _, TT.cl 3 _ rfl, ⟨rd3, i_rB, k_rB⟩, FrB.binds bd_Bit_read, (Gd.up (bread_keep (gRB 3) (by decide) rfl)).mono (by decide)⟩
    | 4, hC => by
      obtain rfl : B4 = C' := Option.some.inj hC
      exact ⟨frB, _, TT.cl 4 _ rfl, ⟨rd4, i_rB, k_rB⟩, FrB.binds bd_Bit_read, (Gd.up (bread_keep (gRB 4) (by decide) rfl)).mono (by decide)⟩
    | 5, hC => by
      obtain rfl : B5 = C' := Option.some.inj hC
      exact ⟨frB, _, TT.cl 5 _ rfl, ⟨rd5, i_rB, k_rB⟩, FrB.binds bd_Bit_read, (Gd.up (bread_keep (gRB 5) (by decide) rfl)).mono (by decide)⟩
    | 6, hC => by
      obtain rfl : B6 = C' := Option.some.inj hC
      exact ⟨frB, _, TT.cl 6 _ rfl, ⟨rd6, i_rB, k_rB⟩, FrB.binds bd_Bit_read, (Gd.up (bread_keep (gRB 6) (by decide) rfl)).mono (by decide)⟩
    | 7, hC => by
      obtain rfl : B7 = C' := Option.some.inj hC
      exact ⟨frB, _, TT.cl 7 _ rfl, ⟨rd7, i_rB, k_rB⟩, FrB.binds bd_Bit_read, (Gd.up (bread_keep (gRB 7) (by decide) rfl)).mono (by decide)⟩
    | 8, hC => by
      obtain rfl : B8 = C' := Option.some.inj hC
      exact ⟨frB, _, TT.cl 8 _ rfl, ⟨rd8, i_rB, k_rB⟩, FrB.binds bd_Bit_read, (Gd.up (bread_keep (gRB 8) (by decide) rfl)).mono (by decide)⟩
    | 9, hC => by
      obtain rfl : B9 = C' := Option.some.inj hC
      exact ⟨frB, _, TT.cl 9 _ rfl, ⟨rd9, i_rB, k_rB⟩, FrB.binds bd_Bit_read, (Gd.up (bread_keep (gRB 9) (by decide) rfl)).mono (by decide)⟩
    | 10, hC => by
      obtain rfl : B10 = C' := Option.some.inj hC
      exact ⟨frB, _, TT.cl 10 _ rfl, ⟨rd10, i_rB, k_rB⟩, FrB.binds bd_Bit_read, (Gd.up (bread_keep (gRB 10) (by decide) rfl)).mono (by decide)⟩
    | 11, hC => by
      obtain rfl : B11 = C' := Option.some.inj hC
      exact ⟨frB, _, TT.cl 11 _ rfl, ⟨rd11, i_rB, k_rB⟩, FrB.binds bd_Bit_read, (Gd.up (bread_keep (gRB 11) (by decide) rfl)).mono (by decide)⟩
    | 12, hC => by
      obtain rfl : B12 = C' := Option.some.inj hC
      exact ⟨frT, _, TT.cl 12 _ rfl, ⟨rd12, i_rT, k_rT⟩, brT, (gRT 12 (by decide) rfl U12_1_read).mono (by decide)⟩
    | 13, hC => by
      obtain rfl : B13 = C' := Option.some.inj hC
      exact ⟨frB, _, TT.cl 13 _ rfl, ⟨rd13, i_rB, k_rB⟩, FrB.binds bd_Bit_read, (Gd.up (bread_keep (gRB 13) (by decide) rfl)).mono (by decide)⟩
    | 14, hC => by
      obtain rfl : B14 = C' := Option.some.inj hC
      exact ⟨frB, _, TT.cl 14 _ rfl, ⟨rd14, i_rB, k_rB⟩, FrB.binds bd_Bit_read, (Gd.up (bread_keep (gRB 14) (by decide) rfl)).mono (by decide)⟩
    | 15, hC => by
      obtain rfl : B15 = C' := Option.some.inj hC
      exact ⟨frT, _, TT.cl 15 _ rfl, ⟨rd15, i_rT, k_rT⟩, brT, (gRT 15 (by decide) rfl U15_1_read).mono (by decide)⟩
    | 16, hC => by
      obtain rfl : B16 = C' := Option.some.inj hC
      exact ⟨frK, _, TT.cl 16 _ rfl, ⟨rd16, i_rK, k_rK⟩, FrK.binds bd_KindBit_read, (Gd.up (ok_kread FrK TT T.cl dNow mAR)).mono (by decide)⟩
    | n + 17, hC => nomatch hC
  have DWr : DMeth l.prog w K mg base (L2.CX l.prog w) 5 CL "write" ["self", "bit"] (spWr C E2 CL) := fun n C' hC => match n, hC with
    | 0, hC => by
      obtain rfl : B0 = C' := Option.some.inj hC
      exact ⟨fwB, _, TT.cl 0 _ rfl, ⟨wr0, i_wB, k_wB⟩, FwB.binds bd_Bit_write, (ok_bwrite FwB TT cCw (n := 0) (by decide) rfl).mono (by decide)⟩
    | 1, hC => by
      obtain rfl : B1 = C' := Option.some.inj hC
      exact ⟨fwB, _, TT.cl 1 _ rfl, ⟨wr1, i_wB, k_wB⟩, FwB.binds bd_Bit_write, (ok_bwrite FwB TT cCw (n := 1) (by decide) rfl).mono (by decide)⟩
    | 2, hC => by
      obtain rfl : B2 = C' := Option.some.inj hC
      exact ⟨fwC, _, TT.cl 2 _ rfl, ⟨wr2, i_wC, k_wC⟩, FwC.binds bd_ClearedBit_write, (ok_clr FwC TT cCw (n := 2) (by decide) rfl).mono (by decide)⟩
    | 3, hC => by
      obtain rfl : B3 = C' := Option.some.inj hC
      exact ⟨fwZ, _, TT.cl 3 _ rfl, ⟨wr3, i_wZ, k_wZ⟩, FwZ.binds bd_ZeroClearedBit_write, (ok_zcl FwZ TT cCw (n := 3) (by decide) rfl).mono (by decide)⟩
    | 4, hC => by
      obtain rfl : B4 = C' := Option.some.inj hC
      exact ⟨fwS, _, TT.cl 4 _ rfl, ⟨wr4, i_wS, k_wS⟩, FwS.binds bd_SetBit_write, (ok_set FwS TT cCw (n := 4) (by decide) rfl).mono (by decide)⟩
    | 5, hC => by
      obtain rfl : B5 = C' := Option.some.inj hC
      exact ⟨fwF, _, TT.cl 5 _ rfl, ⟨wr5, i_wF, k_wF⟩, FwF.binds bd_FlippedBit_write, (ok_flp FwF TT cCw (n := 5) (by decide) rfl).mono (by decide)⟩
    | 6, hC => by
      obtain rfl : B6 = C' := Option.some.inj hC
      exact ⟨fwO, _, TT.cl 6 _ rfl, ⟨wr6, i_wO, k_wO⟩, FwO.binds bd_OnceBit_write, (ok_onc FwO TT cCw gSp (n := 6) (by decide) rfl).mono (by decide)⟩
    | 7, hC => by
      obtain rfl : B7 = C' := Option.some.inj hC
      exact ⟨fwD, _, TT.cl 7 _ rfl, ⟨wr7, i_wD, k_wD⟩, FwD.binds bd_DeafBit_write, (ok_def FwD TT cCw (n := 7) (by decide) rfl).mono (by decide)⟩
    | 8, hC => by
      obtain rfl : B8 = C' := Option.some.inj hC
      exact ⟨fwB, _, TT.cl 8 _ rfl, ⟨wr8, i_wB, k_wB⟩, FwB.binds bd_Bit_write, (ok_bwrite FwB TT cCw (n := 8) (by decide) rfl).mono (by decide)⟩
    | 9, hC => by
      obtain rfl : B9 = C' := Option.some.inj hC
      exact ⟨fwB, _, TT.cl 9 _ rfl, ⟨wr9, i_wB, k_wB⟩, FwB.binds bd_Bit_write, (ok_bwrite FwB TT cCw (n := 9) (by decide) rfl).mono (by decide)⟩
    | 10, hC => by
      obtain rfl : B10 = C' := Option.some.inj hC
      exact ⟨fwB, _, TT.cl 10 _ rfl, ⟨wr10, i_wB, k_wB⟩, FwB.binds bd_Bit_write, (ok_bwrite FwB TT cCw (n := 10) (by decide) rfl).mono (by decide)⟩
    | 11, hC => by
      obtain rfl : B11 = C' := Option.some.inj hC
      exact ⟨fwC, _, TT.cl 11 _ rfl, ⟨wr11, i_wC, k_wC⟩, FwC.binds bd_ClearedBit_write, (ok_clr FwC TT cCw (n := 11) (by decide) rfl).mono (by decide)⟩
    | 12, hC => by
      obtain rfl : B12 = C' := Option.some.inj hC
      exact ⟨fwD, _, TT.cl 12 _ rfl, ⟨wr12, i_wD, k_wD⟩, FwD.binds bd_DeafBit_write, (ok_def FwD TT cCw (n := 12) (by decide) rfl).mono (by decide)⟩
    | 13, hC => by
      obtain rfl : B13 = C' := Option.some.inj hC
      exact ⟨fwS, _, TT.cl 13 _ rfl, ⟨wr13, i_wS, k_wS⟩, FwS.binds bd_SetBit_write, (ok_set FwS TT cCw (n := 13) (by decide) rfl).mono (by decide)⟩
    | 14, hC => by
      obtain rfl : B14 = C' := Option.some.inj hC
      exact ⟨fwD, _, TT.cl 14 _ rfl, ⟨wr14, i_wD, k_wD⟩, FwD.binds bd_DeafBit_write, (ok_def FwD TT cCw (n := 14) (by decide) rfl).mono (by decide)⟩
    | 15, hC => by
      obtain rfl : B15 = C' := Option.some.inj hC
      exact ⟨fwO, _, TT.cl 15 _ rfl, ⟨wr15, i_wO, k_wO⟩, FwO.binds bd_OnceBit_write, (ok_onc FwO TT cCw gSp (n := 15) (by decide) rfl).mono (by decide)⟩
    | 16, hC => by
      obtain rfl : B16 = C' := Option.some.inj hC
      exact ⟨fwK, _, TT.cl 16 _ rfl, ⟨wr16, i_wK, k_wK⟩, FwK.binds bd_KindBit_write, (ok_kwrite FwK TT T.cl cCw mAW).mono (by decide)⟩
    | n + 17, hC => nomatch hC
  have DWk : DMethK l.prog w K mg base (L2.CX l.prog w) 5 CL "write" "bit" (spWr C E2 CL) := fun n C' hC => match n, hC with
    | 0, hC => by
      obtain rfl : B0 = C' := Option.some.inj hC
      exact ⟨fwB, _, TT.cl 0 _ rfl, ⟨wr0, i_wB, k_wB⟩, kb_wB, (ok_bwrite FwB TT cCw (n := 0) (by decide) rfl).mono (by decide)⟩
    | 1, hC => by
      obtain rfl : B1 = C' := Option.some.inj hC
      exact ⟨fwB, _, TT.cl 1 _ rfl, ⟨wr1, i_wB, k_wB⟩, kb_wB, (ok_bwrite FwB TT cCw (n := 1) (by decide) rfl).mono (by decide)⟩
    | 2, hC => by
      obtain rfl : B2 = C' := Option.some.inj hC
      exact ⟨fwC, _, TT.cl 2 _ rfl, ⟨wr2, i_wC, k_wC⟩, kb_wC, (ok_clr FwC TT cCw (n := 2) (by decide) rfl).mono (by decide)⟩
    | 3, hC => by
      obtain rfl : B3 = C' := Option.some.inj hC
      exact ⟨fwZ, _, TT.cl 3 _ rfl, ⟨wr3, i_wZ, k_wZ⟩, kb_wZ, (ok_zcl FwZ TT cCw (n := 3) (by decide) rfl).mono (by decide)⟩
    | 4, hC => by
      obtain rfl : B4 = C' := Option.some.inj hC
      exact ⟨fwS, _, TT.cl 4 _ rfl, ⟨wr4, i_wS, k_wS⟩, kb_wS, (ok_set FwS TT cCw (n := 4) (by decide) rfl).mono (by decide)⟩
    | 5, hC => by
      obtain rfl : B5 = C' := Option.some.inj hC
      exact ⟨fwF, _, TT.cl 5 _ rfl, ⟨wr5, i_wF, k_wF⟩, kb_wF, (ok_flp FwF TT cCw (n := 5) (by decide) rfl).mono (by decide)⟩
    | 6, hC => by
      obtain rfl : B6 = C' := Option.some.inj hC
      exact ⟨fwO, _, TT.cl 6 _ rfl, ⟨wr6, i_wO, k_wO⟩, kb_wO, (ok_onc FwO TT cCw gSp (n := 6) (by decide) rfl).mono (by decide)⟩
    | 7, hC => by
      obtain rfl : B7 = C' := Option.some.inj hC
      exact ⟨fwD, _, TT.cl 7 _ rfl, ⟨wr7, i_wD, k_wD⟩, kb_wD, (ok_def FwD TT cCw (n := 7) (by decide) rfl).mono (by decide)⟩
    | 8, hC => by
      obtain rfl : B8 = C' := Option.some.inj hC
      exact ⟨fwB, _, TT.cl 8 _ rfl, ⟨wr8, i_wB, k_wB⟩, kb_wB, (ok_bwrite FwB TT cCw (n := 8) (by decide) rfl).mono (by decide)⟩
    | 9, hC => by
      obtain rfl : B9 = C' := Option.some.inj hC
      exact ⟨fwB, _, TT.cl 9 _ rfl, ⟨wr9, i_wB, k_wB⟩, kb_wB, (ok_bwrite FwB TT cCw (n := 9) (by decide) rfl).mono (by decide)⟩
    | 10, hC => by
      obtain rfl : B10 = C' := Option.some.inj hC
      exact ⟨fwB, _, TT.cl 10 _ rfl, ⟨wr10, i_wB, k_wB⟩, kb_wB, (ok_bwrite FwB TT cCw (n := 10) (by decide) rfl).mono (by decide)⟩
    | 11, hC => by
      obtain rfl : B11 = C' := Option.some.inj hC
      exact ⟨fwC, _, TT.cl 11 _ rfl, ⟨wr11, i_wC, k_wC⟩, kb_wC, (ok_clr FwC TT cCw (n := 11) (by decide) rfl).mono (by decide)⟩
    | 12, hC => by
      obtain rfl : B12 = C' := Option.some.inj hC
      exact ⟨fwD, _, TT.cl 12 _ rfl, ⟨wr12, i_wD, k_wD⟩, kb_wD, (ok_def FwD TT cCw (n := 12) (by decide) rfl).mono (by decide)⟩
    | 13, hC => by
      obtain rfl : B13 = C' := Option.some.inj hC
      exact ⟨fwS, _, TT.cl 13 _ rfl, ⟨wr13, i_wS, k_wS⟩, kb_wS, (ok_set FwS TT cCw (n := 13) (by decide) rfl).mono (by decide)⟩
    | 14, hC => by
      obtain rfl : B14 = C' := Option.some.inj hC
      exact ⟨fwD, _, TT.cl 14 _ rfl, ⟨wr14, i_wD, k_wD⟩, kb_wD, (ok_def FwD TT cCw (n := 14) (by decide) rfl).mono (by decide)⟩
    | 15, hC => by
      obtain rfl : B15 = C' := Option.some.inj hC
      exact ⟨fwO, _, TT.cl 15 _ rfl, ⟨wr15, i_wO, k_wO⟩, kb_wO, (ok_onc FwO TT cCw gSp (n := 15) (by decide) rfl).mono (by decide)⟩
    | 16, hC => by
      obtain rfl : B16 = C' := Option.some.inj hC
      exact ⟨fwK, _, TT.cl 16 _ rfl, ⟨wr16, i_wK, k_wK⟩, kb_wK, (ok_kwrite FwK TT T.cl cCw mAW).mono (by decide)⟩
    | n + 17, hC => nomatch hC
  have DDd : DMeth l.prog w K mg base (L2.CX l.prog w) 5 CL "deed" ["self"] (spDd C CL) := fun n C' hC => match n, hC with
    | 0, hC => by
      obtain rfl : B0 = C' := Option.some.inj hC
      exact ⟨fdB, _, TT.cl 0 _ rfl, ⟨dd0, i_dB, k_dB⟩, FdB.binds bd_Bit_deed, (Gd.up (gDB 0 (by decide) rfl)).mono (by decide)⟩
    | 1, hC => by
      obtain rfl : B1 = C' := Option.some.inj hC
      exact ⟨fdB, _, TT.cl 1 _ rfl, ⟨dd1, i_dB, k_dB⟩, FdB.binds bd_Bit_deed, (Gd.up (gDB 1 (by decide) rfl)).mono (by decide)⟩
    | 2, hC => by
      obtain rfl : B2 = C' := Option.some.inj hC
      exact ⟨fdB, _, TT.cl 2 _ rfl, ⟨dd2, i_dB, k_dB⟩, FdB.binds bd_Bit_deed, (Gd.up (gDB 2 (by decide) rfl)).mono (by decide)⟩
    | 3, hC => by
      obtain rfl : B3 = C' := Option.some.inj hC
      exact ⟨fdB, _, TT.cl 3 _ rfl, ⟨dd3, i_dB, k_dB⟩, FdB.binds bd_Bit_deed, (Gd.up (gDB 3 (by decide) rfl)).mono (by decide)⟩
    | 4, hC => by
      obtain rfl : B4 = C' := Option.some.inj hC
      exact ⟨fdB, _, TT.cl 4 _ rfl, ⟨dd4, i_dB, k_dB⟩, FdB.binds bd_Bit_deed, (Gd.up (gDB 4 (by decide) rfl)).mono (by decide)⟩
    | 5, hC => by
      obtain rfl : B5 = C' := Option.some.inj hC
      exact ⟨fdB, _, TT.cl 5 _ rfl, ⟨dd5, i_dB, k_dB⟩, FdB.binds bd_Bit_deed, (Gd.up (gDB 5 (by decide) rfl)).mono (by decide)⟩
    | 6, hC => by
      obtain rfl : B6 = C' := Option.some.inj hC
      exact ⟨fdB, _, TT.cl 6 _ rfl, ⟨dd6, i_dB, k_dB⟩, FdB.binds bd_Bit_deed, (Gd.up (gDB 6 (by decide) rfl)).mono (by decide)⟩
    | 7, hC => by
      obtain rfl : B7 = C' := Option.some.inj hC
      exact ⟨fdB, _, TT.cl 7 _ rfl, ⟨dd7, i_dB, k_dB⟩, FdB.binds bd_Bit_deed, (Gd.up (gDB 7 (by decide) rfl)).mono (by decide)⟩
    | 8, hC => by
      obtain rfl : B8 = C' := Option.some.inj hC
      exact ⟨fdR, _, TT.cl 8 _ rfl, ⟨dd8, i_dR, k_dR⟩, bdR, ok_rdeed (n := 8) (k := 0) FFdR TT dNow (by decide) (.inl rfl) U8_8_deed (gDB1 1 8 rfl) (FdB.binds bd_Bit_deed)⟩
    | 9, hC => by
      obtain rfl : B9 = C' := Option.some.inj hC
      exact ⟨fdE, _, TT.cl 9 _ rfl, ⟨dd9, i_dE, k_dE⟩, bdE, ok_edeed (n := 9) (k := 0) FFdE TT dNow (by decide) rfl U9_9_deed (gDB1 0 9 rfl) (FdB.binds bd_Bit_deed)⟩
    | 10, hC => by
      obtain rfl : B10 = C' := Option.some.inj hC
      exact ⟨fdR, _, TT.cl 10 _ rfl, ⟨dd10, i_dR, k_dR⟩, bdR, ok_rdeed (n := 10) (k := 0) FFdR TT dNow (by decide) (.inr rfl) U10_8_deed (gDE1 10 rfl) bdE⟩
    | 11, hC => by
      obtain rfl : B11 = C' := Option.some.inj hC
      exact ⟨fdR, _, TT.cl 11 _ rfl, ⟨dd11, i_dR, k_dR⟩, bdR, ok_rdeed (n := 11) (k := 0) FFdR TT dNow (by decide) (.inl rfl) U11_8_deed (gDB1 1 11 rfl) (FdB.binds bd_Bit_deed)⟩
    | 12, hC => by
      obtain rfl : B12 = C' := Option.some.inj hC
      exact ⟨fdR, _, TT.cl 12 _ rfl, ⟨dd12, i_dR, k_dR⟩, bdR, ok_rdeed (n := 12) (k := 0) FFdR TT dNow (by decide) (.inl rfl) U12_8_deed (gDB1 1 12 rfl) (FdB.binds bd_Bit_deed)⟩
    | 13, hC => by
      obtain rfl : B13 = C' := Option.some.inj hC
      exact ⟨fdE, _, TT.cl 13 _ rfl, ⟨dd13, i_dE, k_dE⟩, bdE, ok_edeed (n := 13) (k := 0) FFdE TT dNow (by decide) rfl U13_9_deed (gDB1 0 13 rfl) (FdB.binds bd_Bit_deed)⟩
    | 14, hC => by
      obtain rfl : B14 = C' := Option.some.inj hC
      exact ⟨fdR, _, TT.cl 14 _ rfl, ⟨dd14, i_dR, k_dR⟩, bdR, ok_rdeed (n := 14) (k := 0) FFdR TT dNow (by decide) (.inr rfl) U14_8_deed (gDE1 14 rfl) bdE⟩
    | 15, hC => by
      obtain rfl : B15 = C' := Option.some.inj hC
      exact ⟨fdB, _, TT.cl 15 _ rfl, ⟨dd15, i_dB, k_dB⟩, FdB.binds bd_Bit_deed, (Gd.up (gDB 15 (by decide) rfl)).mono (by decide)⟩
    | 16, hC => by
      obtain rfl : B16 = C' := Option.some.inj hC
      exact ⟨fdK, _, TT.cl 16 _ rfl, ⟨dd16, i_dK, k_dK⟩, FdK.binds bd_KindBit_deed, (Gd.up (ok_kdeed FdK TT T.cl mDE)).mono (by decide)⟩
    | n + 17, hC => nomatch hC
  have FbI : FunD K "__init__" "Bit.__init__" (defArgs s_Bit___init__) (defBody s_Bit___init__) (defScope s_Bit___init__) [.int 0] [] fbI _ :=
    ⟨⟨_, _, _, _, _, _, _, _, _, _, rfl, l_bI, c_bI, .inr ⟨by simp, TDbI, _, [.int 0 tubI], nTbI, rfl, lTbI, rfl, .cons ⟨_, rfl⟩ .nil⟩, .inl rfl⟩, k_bI⟩
  have bBI := bind_bit FbI
  have GI := ok_binit (P := l.prog) (w := w) (mg := mg) (base := base) FbI TT cCw
  have GK := ok_kinit FFkI TT U16_16_init GI bBI
  have bK2 : Binds K (PySem.W.ksFn "__init__" "KindBit.__init__" (defArgs s_KindBit___init__) (defBody s_KindBit___init__) (defScope s_KindBit___init__) (.ref TDkI) kVkI dckI pmkI ankI (.ref cdakI) ctkI cckI) ["self", "kind", "value"] [] := binds_seq (its := [.int 0 tukI]) lTkI rfl fun us hl => by
    have hl : us.length = 3 := by simpa using hl
    match us, hl with
    | [_, _, _], _ => exact ⟨_, rfl, rfl⟩
  have bK1 : Binds K (PySem.W.ksFn "__init__" "KindBit.__init__" (defArgs s_KindBit___init__) (defBody s_KindBit___init__) (defScope s_KindBit___init__) (.ref TDkI) kVkI dckI pmkI ankI (.ref cdakI) ctkI cckI) ["self", "kind", "value"] [.int 0 tukI] := binds_seq (its := [.int 0 tukI]) lTkI rfl fun us hl => by
    have hl : us.length = 2 := by simpa using hl
    match us, hl with
    | [_, _], _ => exact ⟨_, rfl, rfl⟩
  have kbK : KBn K (PySem.W.ksFn "__init__" "KindBit.__init__" (defArgs s_KindBit___init__) (defBody s_KindBit___init__) (defScope s_KindBit___init__) (.ref TDkI) kVkI dckI pmkI ankI (.ref cdakI) ctkI cckI) ["self", "kind", "value"] 1 ["value", "kind"] (fun us ws => us ++ ws.reverse) (fun us ws => us ++ ws.reverse) := kbn_seq (its := [.int 0 tukI]) lTkI rfl fun x v k => ⟨_, rfl, rfl⟩
  have MBB : MB K mg CL fbI fkI := {
    len := rfl
    gB := fun i hi => match i, hi with | 0, _ => PySem.W.mg_of X G n_Bit | 1, _ => PySem.W.mg_of X G n_TakenBit | 2, _ => PySem.W.mg_of X G n_ClearedBit | 3, _ => PySem.W.mg_of X G n_ZeroClearedBit | 4, _ => PySem.W.mg_of X G n_SetBit | 5, _ => PySem.W.mg_of X G n_FlippedBit | 6, _ => PySem.W.mg_of X G n_OnceBit | 7, _ => PySem.W.mg_of X G n_DeafBit | 8, _ => PySem.W.mg_of X G n_RaisedBit | 9, _ => PySem.W.mg_of X G n_EndedBit | 10, _ => PySem.W.mg_of X G n_DriftingBit | 11, _ => PySem.W.mg_of X G n_EventBit | 12, _ => PySem.W.mg_of X G n_TakenEventBit | 13, _ => PySem.W.mg_of X G n_StartBit | 14, _ => PySem.W.mg_of X G n_GaugeBit | 15, _ => PySem.W.mg_of X G n_SealedBit | 16, _ => PySem.W.mg_of X G n_KindBit | n + 17, hi => absurd hi (by omega)
    mkB := fun i hi => match i, hi with | 0, _ => ⟨mk0, in0, i_bI, kc0⟩ | 1, _ => ⟨mk1, in1, i_bI, kc1⟩ | 2, _ => ⟨mk2, in2, i_bI, kc2⟩ | 3, _ => ⟨mk3, in3, i_bI, kc3⟩ | 4, _ => ⟨mk4, in4, i_bI, kc4⟩ | 5, _ => ⟨mk5, in5, i_bI, kc5⟩ | 6, _ => ⟨mk6, in6, i_bI, kc6⟩ | 7, _ => ⟨mk7, in7, i_bI, kc7⟩ | 8, _ => ⟨mk8, in8, i_bI, kc8⟩ | 9, _ => ⟨mk9, in9, i_bI, kc9⟩ | 10, _ => ⟨mk10, in10, i_bI, kc10⟩ | 11, _ => ⟨mk11, in11, i_bI, kc11⟩ | 12, _ => ⟨mk12, in12, i_bI, kc12⟩ | 13, _ => ⟨mk13, in13, i_bI, kc13⟩ | 14, _ => ⟨mk14, in14, i_bI, kc14⟩ | 15, _ => ⟨mk15, in15, i_bI, kc15⟩ | n + 16, hi => absurd hi (by omega)
    mkK := ⟨mk16, in16, i_kI, kc16⟩ }
  have cPl := ok_plain (P := l.prog) (w := w) (base := base) (C := C) D_law_plain_bit MBB GI bBI
  have cBt := ok_bit (P := l.prog) (w := w) (base := base) (C := C) D_law_bit MBB GI bBI cPl
  have IS : IB K CL := {
    isC := fun n C' hC => match n, hC with
    | 0, hC => by
      obtain rfl : B0 = C' := Option.some.inj hC
      exact cl0_
    | 1, hC => by
      obtain rfl : B1 = C' := Option.some.inj hC
      exact cl1_
    | 2, hC => by
      obtain rfl : B2 = C' := Option.some.inj hC
      exact cl2_
    | 3, hC => by
      obtain rfl : B3 = C' := Option.some.inj hC
      exact cl3_
    | 4, hC => by
      obtain rfl : B4 = C' := Option.some.inj hC
      exact cl4_
    | 5, hC => by
      obtain rfl : B5 = C' := Option.some.inj hC
      exact cl5_
    | 6, hC => by
      obtain rfl : B6 = C' := Option.some.inj hC
      exact cl6_
    | 7, hC => by
      obtain rfl : B7 = C' := Option.some.inj hC
      exact cl7_
    | 8, hC => by
      obtain rfl : B8 = C' := Option.some.inj hC
      exact cl8_
    | 9, hC => by
      obtain rfl : B9 = C' := Option.some.inj hC
      exact cl9_
    | 10, hC => by
      obtain rfl : B10 = C' := Option.some.inj hC
      exact cl10_
    | 11, hC => by
      obtain rfl : B11 = C' := Option.some.inj hC
      exact cl11_
    | 12, hC => by
      obtain rfl : B12 = C' := Option.some.inj hC
      exact cl12_
    | 13, hC => by
      obtain rfl : B13 = C' := Option.some.inj hC
      exact cl13_
    | 14, hC => by
      obtain rfl : B14 = C' := Option.some.inj hC
      exact cl14_
    | 15, hC => by
      obtain rfl : B15 = C' := Option.some.inj hC
      exact cl15_
    | 16, hC => by
      obtain rfl : B16 = C' := Option.some.inj hC
      exact cl16_
    | n + 17, hC => nomatch hC
    isG := isG
    isT := isT
    isM := fun n C' hC => match n, hC with
    | 0, hC => by
      obtain rfl : B0 = C' := Option.some.inj hC
      exact mo0_
    | 1, hC => by
      obtain rfl : B1 = C' := Option.some.inj hC
      exact mo1_
    | 2, hC => by
      obtain rfl : B2 = C' := Option.some.inj hC
      exact mo2_
    | 3, hC => by
      obtain rfl : B3 = C' := Option.some.inj hC
      exact mo3_
    | 4, hC => by
      obtain rfl : B4 = C' := Option.some.inj hC
      exact mo4_
    | 5, hC => by
      obtain rfl : B5 = C' := Option.some.inj hC
      exact mo5_
    | 6, hC => by
      obtain rfl : B6 = C' := Option.some.inj hC
      exact mo6_
    | 7, hC => by
      obtain rfl : B7 = C' := Option.some.inj hC
      exact mo7_
    | 8, hC => by
      obtain rfl : B8 = C' := Option.some.inj hC
      exact mo8_
    | 9, hC => by
      obtain rfl : B9 = C' := Option.some.inj hC
      exact mo9_
    | 10, hC => by
      obtain rfl : B10 = C' := Option.some.inj hC
      exact mo10_
    | 11, hC => by
      obtain rfl : B11 = C' := Option.some.inj hC
      exact mo11_
    | 12, hC => by
      obtain rfl : B12 = C' := Option.some.inj hC
      exact mo12_
    | 13, hC => by
      obtain rfl : B13 = C' := Option.some.inj hC
      exact mo13_
    | 14, hC => by
      obtain rfl : B14 = C' := Option.some.inj hC
      exact mo14_
    | 15, hC => by
      obtain rfl : B15 = C' := Option.some.inj hC
      exact mo15_
    | 16, hC => by
      obtain rfl : B16 = C' := Option.some.inj hC
      exact mo16_
    | n + 17, hC => nomatch hC
    kit := fun n i C' D' hC hD => by
      have h1 : n < 17 := (List.getElem?_eq_some_iff.mp hC).1
      have h2 : i < 17 := (List.getElem?_eq_some_iff.mp hD).1
      have e1 : CL.getD n 0 = C' := by rw [List.getD_eq_getElem?_getD, hC]; rfl
      have e2 : CL.getD i 0 = D' := by rw [List.getD_eq_getElem?_getD, hD]; rfl
      have e3 := beq_iff_eq.mp (List.all_eq_true.mp (List.all_eq_true.mp kitAll n (List.mem_range.mpr h1)) i (List.mem_range.mpr h2))
      have e3 : PySem.W.kitOne K (.ref (CL.getD n 0)) (.ref (CL.getD i 0)) = some (subT n i) := e3
      rw [e1, e2] at e3
      exact e3 }
  let wa : Nat → Addr := fun n => match n with | 0 => wa0 | 1 => wa1 | 2 => wa2 | 3 => wa3 | 4 => wa4 | 5 => wa5 | 6 => wa6 | 7 => wa7 | 8 => wa8 | 9 => wa9 | 10 => wa10 | 11 => wa11 | 12 => wa12 | 13 => wa13 | 14 => wa14 | _ => wa15
  have WD : Wd K CL wa := {
    con := fun n C' hn hC => match n, hn, hC with
    | 0, _, hC => by
      obtain rfl : B0 = C' := Option.some.inj hC
      exact ⟨fw0_, rfl, sw0_, by decide⟩
    | 1, _, hC => by
      obtain rfl : B1 = C' := Option.some.inj hC
      exact ⟨fw1_, rfl, sw1_, by decide⟩
    | 2, _, hC => by
      obtain rfl : B2 = C' := Option.some.inj hC
      exact ⟨fw2_, rfl, sw2_, by decide⟩
    | 3, _, hC => by
      obtain rfl : B3 = C' := Option.some.inj hC
      exact ⟨fw3_, rfl, sw3_, by decide⟩
    | 4, _, hC => by
      obtain rfl : B4 = C' := Option.some.inj hC
      exact ⟨fw4_, rfl, sw4_, by decide⟩
    | 5, _, hC => by
      obtain rfl : B5 = C' := Option.some.inj hC
      exact ⟨fw5_, rfl, sw5_, by decide⟩
    | 6, _, hC => by
      obtain rfl : B6 = C' := Option.some.inj hC
      exact ⟨fw6_, rfl, sw6_, by decide⟩
    | 7, _, hC => by
      obtain rfl : B7 = C' := Option.some.inj hC
      exact ⟨fw7_, rfl, sw7_, by decide⟩
    | 8, _, hC => by
      obtain rfl : B8 = C' := Option.some.inj hC
      exact ⟨fw8_, rfl, sw8_, by decide⟩
    | 9, _, hC => by
      obtain rfl : B9 = C' := Option.some.inj hC
      exact ⟨fw9_, rfl, sw9_, by decide⟩
    | 10, _, hC => by
      obtain rfl : B10 = C' := Option.some.inj hC
      exact ⟨fw10_, rfl, sw10_, by decide⟩
    | 11, _, hC => by
      obtain rfl : B11 = C' := Option.some.inj hC
      exact ⟨fw11_, rfl, sw11_, by decide⟩
    | 12, _, hC => by
      obtain rfl : B12 = C' := Option.some.inj hC
      exact ⟨fw12_, rfl, sw12_, by decide⟩
    | 13, _, hC => by
      obtain rfl : B13 = C' := Option.some.inj hC
      exact ⟨fw13_, rfl, sw13_, by decide⟩
    | 14, _, hC => by
      obtain rfl : B14 = C' := Option.some.inj hC
      exact ⟨fw14_, rfl, sw14_, by decide⟩
    | 15, _, hC => by
      obtain rfl : B15 = C' := Option.some.inj hC
      exact ⟨fw15_, rfl, sw15_, by decide⟩
    | n + 16, hn, _ => absurd hn (by omega)
    rd := fun n hn => match n, hn with
    | 0, _ => ⟨mcB0, ⟨rb0_, gb0_⟩, ⟨vb0_, rfl⟩⟩
    | 1, _ => ⟨mcB1, ⟨rb1_, gb1_⟩, ⟨vb1_, rfl⟩⟩
    | 2, _ => ⟨mcB2, ⟨rb2_, gb2_⟩, ⟨vb2_, rfl⟩⟩
    | 3, _ => ⟨mcB3, ⟨rb3_, gb3_⟩, ⟨vb3_, rfl⟩⟩
    | 4, _ => ⟨mcB4, ⟨rb4_, gb4_⟩, ⟨vb4_, rfl⟩⟩
    | 5, _ => ⟨mcB5, ⟨rb5_, gb5_⟩, ⟨vb5_, rfl⟩⟩
    | 6, _ => ⟨mcB6, ⟨rb6_, gb6_⟩, ⟨vb6_, rfl⟩⟩
    | 7, _ => ⟨mcB7, ⟨rb7_, gb7_⟩, ⟨vb7_, rfl⟩⟩
    | 8, _ => ⟨mcB8, ⟨rb8_, gb8_⟩, ⟨vb8_, rfl⟩⟩
    | 9, _ => ⟨mcB9, ⟨rb9_, gb9_⟩, ⟨vb9_, rfl⟩⟩
    | 10, _ => ⟨mcB10, ⟨rb10_, gb10_⟩, ⟨vb10_, rfl⟩⟩
    | 11, _ => ⟨mcB11, ⟨rb11_, gb11_⟩, ⟨vb11_, rfl⟩⟩
    | 12, _ => ⟨mcB12, ⟨rb12_, gb12_⟩, ⟨vb12_, rfl⟩⟩
    | 13, _ => ⟨mcB13, ⟨rb13_, gb13_⟩, ⟨vb13_, rfl⟩⟩
    | 14, _ => ⟨mcB14, ⟨rb14_, gb14_⟩, ⟨vb14_, rfl⟩⟩
    | 15, _ => ⟨mcB15, ⟨rb15_, gb15_⟩, ⟨vb15_, rfl⟩⟩
    | n + 16, hn => absurd hn (by omega)
    tup := fun n hn => match n, hn with
    | 0, _ => ktup q_wa0 rfl (.cons ⟨_, rfl⟩ (.cons ⟨_, rfl⟩ (.cons ⟨_, rfl⟩ .nil)))
    | 1, _ => ktup q_wa1 rfl (.cons ⟨_, rfl⟩ (.cons ⟨_, rfl⟩ (.cons ⟨_, rfl⟩ .nil)))
    | 2, _ => ktup q_wa2 rfl (.cons ⟨_, rfl⟩ (.cons ⟨_, rfl⟩ (.cons ⟨_, rfl⟩ .nil)))
    | 3, _ => ktup q_wa3 rfl (.cons ⟨_, rfl⟩ (.cons ⟨_, rfl⟩ (.cons ⟨_, rfl⟩ .nil)))
    | 4, _ => ktup q_wa4 rfl (.cons ⟨_, rfl⟩ (.cons ⟨_, rfl⟩ (.cons ⟨_, rfl⟩ .nil)))
    | 5, _ => ktup q_wa5 rfl (.cons ⟨_, rfl⟩ (.cons ⟨_, rfl⟩ (.cons ⟨_, rfl⟩ .nil)))
    | 6, _ => ktup q_wa6 rfl (.cons ⟨_, rfl⟩ (.cons ⟨_, rfl⟩ (.cons ⟨_, rfl⟩ .nil)))
    | 7, _ => ktup q_wa7 rfl (.cons ⟨_, rfl⟩ (.cons ⟨_, rfl⟩ (.cons ⟨_, rfl⟩ .nil)))
    | 8, _ => ktup q_wa8 rfl (.cons ⟨_, rfl⟩ (.cons ⟨_, rfl⟩ (.cons ⟨_, rfl⟩ .nil)))
    | 9, _ => ktup q_wa9 rfl (.cons ⟨_, rfl⟩ (.cons ⟨_, rfl⟩ (.cons ⟨_, rfl⟩ .nil)))
    | 10, _ => ktup q_wa10 rfl (.cons ⟨_, rfl⟩ (.cons ⟨_, rfl⟩ (.cons ⟨_, rfl⟩ .nil)))
    | 11, _ => ktup q_wa11 rfl (.cons ⟨_, rfl⟩ (.cons ⟨_, rfl⟩ (.cons ⟨_, rfl⟩ .nil)))
    | 12, _ => ktup q_wa12 rfl (.cons ⟨_, rfl⟩ (.cons ⟨_, rfl⟩ (.cons ⟨_, rfl⟩ .nil)))
    | 13, _ => ktup q_wa13 rfl (.cons ⟨_, rfl⟩ (.cons ⟨_, rfl⟩ (.cons ⟨_, rfl⟩ .nil)))
    | 14, _ => ktup q_wa14 rfl (.cons ⟨_, rfl⟩ (.cons ⟨_, rfl⟩ (.cons ⟨_, rfl⟩ .nil)))
    | 15, _ => ktup q_wa15 rfl (.cons ⟨_, rfl⟩ (.cons ⟨_, rfl⟩ (.cons ⟨_, rfl⟩ .nil)))
    | n + 16, hn => absurd hn (by omega) }
  have cMk := ok_marks (P := l.prog) (w := w) (base := base) D_law_marks B MBB TT IS
  have cAb := ok_above (P := l.prog) (w := w) (base := base) D_law_above B (PySem.W.mg_none_of X G no_set) (PySem.W.mg_none_of X G no_sorted)
  have cRd := ok_lread (P := l.prog) (w := w) (base := base) D_law_read
  have cWr := ok_lwrite (P := l.prog) (w := w) (base := base) D_law_write
  have cDe := ok_ldeeds (P := l.prog) (w := w) (base := base) D_law_deeds
  have cDo := ok_done (P := l.prog) (w := w) (base := base) D_law_done B cDr cRd cWr cDe DRd DDd DWk
  have vI1 : Vals [.int 0] [.int 0 tubI] := .cons ⟨_, rfl⟩ .nil
  have bI1 : ∃ ds, Vals (([.int 0] : List V).drop 0) ds ∧ Binds K (PySem.W.fnOf "__init__" "Bit.__init__" (defArgs s_Bit___init__) (defBody s_Bit___init__) (defScope s_Bit___init__) (.ref TDbI) kVbI dcbI pmbI anbI cdbI ctbI) ["self", "value"] ds := by
    refine FbI.binds1 1 0 (by simp) rfl ?_
    intro T kV doc pm an cdv ct us its h1 h2
    match us, its, h1, h2 with
    | [_], [_], _, _ => exact ⟨_, rfl, rfl⟩
  obtain ⟨dI, vI, bI⟩ := bI1
  exact ok_law l_law c_law B (PySem.W.mg_none_of X G no_zip) T TT MBB WD cPn cDr cWo cBt cMk cAb cDo ⟨mk, a_Kind___init__, i_Kind___init__, kc⟩ G1 b1 GI vI bI (kbn_seq1 (its := [.int 0 tubI]) lTbI rfl fun x v => ⟨_, rfl, rfl⟩) GK (.cons ⟨_, rfl⟩ .nil) bK1 dNow dSta
end Law

set_option Elab.async false
set_option linter.all false
set_option maxRecDepth 100000
set_option maxHeartbeats 4000000
namespace Law
open PySem PySem.Spec PySem.Calls PyProof.Rows L2 KG
local macro_rules | `(tactic| walk_at "1") => `(tactic| first
  | (with_reducible refine w_var rfl ?_) | (with_reducible refine w_c ?_) | (with_reducible refine w_seq ?_) | (with_reducible refine w_asg ?_) | (with_reducible refine w_gname ?_) | (with_reducible refine w_op ?_) | (with_reducible refine w_un ?_)
  | (with_reducible refine w_add ?_) | (with_reducible refine w_sub ?_) | ((with_reducible refine' w_mod ?mo ?_); (case mo => first | assumption | decide | omega)) | (with_reducible refine w_and ?_) | (with_reducible refine w_or ?_) | (with_reducible refine w_xor ?_)
  | (with_reducible refine w_gt ?_) | (with_reducible refine w_lt ?_) | (with_reducible refine w_ge ?_) | (with_reducible refine w_le ?_) | ((with_reducible refine' w_eq ?sc ?_); (case sc => rfl)) | ((with_reducible refine' w_ne ?sc ?_); (case sc => rfl))
  | (with_reducible refine w_ret ?_) | (with_reducible refine w_next ?_) | (with_reducible refine w_ifs ?_) | (with_reducible refine w_ifx ?_) | (with_reducible refine w_test ?_) | (with_reducible refine w_tB ?_) | (with_reducible refine w_bl ?_)
  | ((with_reducible refine' w_ixL ?ixh ?ixa ?_); (case ixh => first | exact SqL.of (by assumption)); (case ixa => first | rfl | skip)) | ((with_reducible refine' w_ixT ?ixh ?ixa ?_); (case ixh => first | exact SqT.of (by assumption)); (case ixa => first | rfl | skip))
  | ((with_reducible refine' w_fld ?_)) | ((with_reducible refine' fld ?fh ?fc ?fn ?fl ?_); (case fh => assumption); (case fc => assumption); (case fn => assumption); (case fl => rfl)) | (with_reducible refine w_sfld ?_)
  | (with_reducible refine Or.inl ⟨_, rfl, ?_⟩) | (with_reducible refine w_gsub ?_) | (with_reducible refine w_andV ?_) | (with_reducible refine w_orV ?_)
  | (with_reducible refine w_nil ?_) | (with_reducible refine w_cons ?_) | (with_reducible refine w_tup ?_) | (with_reducible refine w_lst ?_) | (with_reducible refine w_and2 ?_) | (with_reducible refine w_or2 ?_) | (with_reducible refine w_not ?_) | (with_reducible refine w_cb ?_) | (with_reducible refine w_call ?_) | (with_reducible refine w_par ?_) | (with_reducible refine w_pnil ?_) | (with_reducible refine w_pcons ?_) | (with_reducible refine w_dput ?_) | (with_reducible refine w_dget ?_) | (with_reducible refine w_for ?_) | (with_reducible refine w_itup ?_) | (with_reducible refine w_ilist ?_) | (with_reducible refine w_irng ?_) | (with_reducible refine w_meth ?_) | (with_reducible refine w_make ?_) | (with_reducible refine w_makeK ?_) | (with_reducible refine w_methK ?_) | ((with_reducible refine' mth ?mh ?ml ?_); (case mh => assumption); (case ml => rfl)) | (with_reducible refine w_drop ?_))
local macro_rules | `(tactic| walk_at "go") => `(tactic| ((repeat (walk_at "1")); try dsimp only))
local macro_rules | `(tactic| walk_at "1") => `(tactic| first
  | (with_reducible refine w_notV ?_) | (with_reducible refine w_callK ?_) | (with_reducible refine w_lc ?_) | (with_reducible refine w_chain ?_) | (with_reducible refine w_neg ?_) | ((with_reducible refine' w_shr ?mo ?_); (case mo => first | assumption | omega)))
end Law
open PySem PySem.W PyProof.Rows
local macro_rules
  | `(tactic| refine $h:ident (q := $q) (loose := $l) (Xt := $x) (XP := $xp) (Yf := $yf) (Ya := $ya) (YP := $yp) (N := $n) $_hole $rs*) => `(tactic| refine $h:ident (N := $n) (q := $q) (loose := $l) (Xt := $x) (XP := $xp) (Yf := $yf) (Ya := $ya) (YP := $yp) (KL.left_plain $n (by kernel_rfl) (by rfl) (fun s => by kernel_rfl) (by rfl) (by exact $(Lean.mkIdent `run))) $rs*)
set_option maxRecDepth 100000 in
set_option maxHeartbeats 0 in
noncomputable def KL.all : {R : World → Prop // (∀ w, R w) → PySem.Challenge.rw_keptbits_k09_a_family_of_bits.Holds} := by
  refine' ⟨_, fun run => ?main⟩
  case main =>
    w_on; o_law; k_head; (case hw => w_witness2)
    k_fill
    refine KG.walk_gdK (CX := L2.CX0) (sp := Law.spLaw) (k := 9) (n := 63) (x := "_law_script") (l := PySem.Challenge.rw_keptbits_k09_a_family_of_bits) rfl (by decide) rfl ⟨rfl, by decide, by decide⟩ (fun w h Y => PySem.W.kIn_of Y) ?F ?g1 ?g2
    case g1 => exact fun K H a ns hl _ hS => ⟨a, ns, rfl, hS, hl, fun _ => rfl⟩
    case g2 => exact fun _ _ _ _ z => z
    case F =>
      intro w mg fa h KX G hmg
      refine' Law.all KX G hmg ?n_Kind ?n_WRITES ?n_INVERTED ?n_BitError ?n_Bit ?n_TakenBit ?n_ClearedBit ?n_ZeroClearedBit ?n_SetBit ?n_FlippedBit ?n_OnceBit ?n_DeafBit ?n_RaisedBit ?n_EndedBit ?n_DriftingBit ?n_EventBit ?n_TakenEventBit ?n_StartBit ?n_GaugeBit ?n_SealedBit ?n_KindBit ?n_SPENT ?no_int ?no_len ?no_abs ?no_list ?no_repr ?no_range ?no_str ?no_isinstance ?no_bool ?no_tuple ?no_super ?no_zip ?no_set ?no_sorted ?pg ?hd ?po ?fd_C_setattr ?fd_C_reading ?fd_C_writing ?fd_C_device ?fd_C_states ?fd_C_class ?fd_C_ne ?isG ?isT ?isM ?mk ?kc ?mcT ?rdI ?gaI ?v_READINGS ?q_aR ?v_WRITINGS ?q_bW ?v_DEVICES ?q_aD ?lW ?lI ?kW ?kI ?g_w_store ?q_w_store ?q_w_storea ?q_w_storeb ?g_w_clear1 ?q_w_clear1 ?q_w_clear1a ?q_w_clear1b ?g_w_clear0 ?q_w_clear0 ?q_w_clear0a ?q_w_clear0b ?g_w_set1 ?q_w_set1 ?q_w_set1a ?q_w_set1b ?g_w_flip1 ?q_w_flip1 ?q_w_flip1a ?q_w_flip1b ?g_w_once ?q_w_once ?q_w_oncea ?q_w_onceb ?g_w_none ?q_w_none ?q_w_nonea ?q_w_noneb ?g_i_still ?q_i_still ?g_i_raise ?q_i_raise ?g_i_end ?q_i_end ?g_i_drift ?q_i_drift ?a_Kind___init__ ?i_Kind___init__ ?l_Kind___init__ ?c_Kind___init__ ?k_Kind___init__ ?a_Kind_after_read ?i_Kind_after_read ?l_Kind_after_read ?c_Kind_after_read ?k_Kind_after_read ?a_Kind_after_write ?i_Kind_after_write ?l_Kind_after_write ?c_Kind_after_write ?k_Kind_after_write ?a_Kind_unguarded ?i_Kind_unguarded ?l_Kind_unguarded ?c_Kind_unguarded ?k_Kind_unguarded ?a_Kind_deeds ?i_Kind_deeds ?l_Kind_deeds ?c_Kind_deeds ?k_Kind_deeds ?a_Kind___eq__ ?i_Kind___eq__ ?l_Kind___eq__ ?c_Kind___eq__ ?k_Kind___eq__ ?n_InvalidWord ?ty2 ?sB2 ?fd_E2_value ?sV2 ?fBE ?cBE ?opq ?topE ?clE2 ?veE2 ?fd_E2_setattr ?kE2 ?iniE2 ?fnE2 ?lE2 ?cE2 ?lC2 ?vE2 ?fE2 ?lcc2 ?mE2 ?mBE2 ?pg0 ?hd0 ?po0 ?fd_B0_setattr ?fd_B0_state ?mk0 ?kc0 ?in0 ?rd0 ?wr0 ?dd0 ?nw0 ?st0 ?pg1 ?hd1 ?po1 ?fd_B1_setattr ?fd_B1_state ?mk1 ?kc1 ?in1 ?rd1 ?wr1 ?dd1 ?nw1 ?st1 ?pg2 ?hd2 ?po2 ?fd_B2_setattr ?fd_B2_state ?mk2 ?kc2 ?in2 ?rd2 ?wr2 ?dd2 ?nw2 ?st2 ?pg3 ?hd3 ?po3 ?fd_B3_setattr ?fd_B3_state ?mk3 ?kc3 ?in3 ?rd3 ?wr3 ?dd3 ?nw3 ?st3 ?pg4 ?hd4 ?po4 ?fd_B4_setattr ?fd_B4_state ?mk4 ?kc4 ?in4 ?rd4 ?wr4 ?dd4 ?nw4 ?st4 ?pg5 ?hd5 ?po5 ?fd_B5_setattr ?fd_B5_state ?mk5 ?kc5 ?in5 ?rd5 ?wr5 ?dd5 ?nw5 ?st5 ?pg6 ?hd6 ?po6 ?fd_B6_setattr ?fd_B6_state ?mk6 ?kc6 ?in6 ?rd6 ?wr6 ?dd6 ?nw6 ?st6 ?pg7 ?hd7 ?po7 ?fd_B7_setattr ?fd_B7_state ?mk7 ?kc7 ?in7 ?rd7 ?wr7 ?dd7 ?nw7 ?st7 ?pg8 ?hd8 ?po8 ?fd_B8_setattr ?fd_B8_state ?mk8 ?kc8 ?in8 ?rd8 ?wr8 ?dd8 ?nw8 ?st8 ?pg9 ?hd9 ?po9 ?fd_B9_setattr ?fd_B9_state ?mk9 ?kc9 ?in9 ?rd9 ?wr9 ?dd9 ?nw9 ?st9 ?pg10 ?hd10 ?po10 ?fd_B10_setattr ?fd_B10_state ?mk10 ?kc10 ?in10 ?rd10 ?wr10 ?dd10 ?nw10 ?st10 ?pg11 ?hd11 ?po11 ?fd_B11_setattr ?fd_B11_state ?mk11 ?kc11 ?in11 ?rd11 ?wr11 ?dd11 ?nw11 ?st11 ?pg12 ?hd12 ?po12 ?fd_B12_setattr ?fd_B12_state ?mk12 ?kc12 ?in12 ?rd12 ?wr12 ?dd12 ?nw12 ?st12 ?pg13 ?hd13 ?po13 ?fd_B13_setattr ?fd_B13_state ?mk13 ?kc13 ?in13 ?rd13 ?wr13 ?dd13 ?nw13 ?st13 ?pg14 ?hd14 ?po14 ?fd_B14_setattr ?fd_B14_state ?mk14 ?kc14 ?in14 ?rd14 ?wr14 ?dd14 ?nw14 ?st14 ?pg15 ?hd15 ?po15 ?fd_B15_setattr ?fd_B15_state ?mk15 ?kc15 ?in15 ?rd15 ?wr15 ?dd15 ?nw15 ?st15 ?pg16 ?hd16 ?po16 ?fd_B16_setattr ?fd_B16_state ?fd_B16_kind ?mk16 ?kc16 ?in16 ?rd16 ?wr16 ?dd16 ?nw16 ?st16 ?l_rB ?c_rB ?k_rB ?i_rB ?l_rK ?c_rK ?k_rK ?i_rK ?l_wB ?c_wB ?k_wB ?i_wB ?l_wC ?c_wC ?k_wC ?i_wC ?l_wZ ?c_wZ ?k_wZ ?i_wZ ?l_wS ?c_wS ?k_wS ?i_wS ?l_wF ?c_wF ?k_wF ?i_wF ?l_wO ?c_wO ?k_wO ?i_wO ?l_wD ?c_wD ?k_wD ?i_wD ?l_wK ?c_wK ?k_wK ?i_wK ?l_dB ?c_dB ?k_dB ?i_dB ?l_dK ?c_dK ?k_dK ?i_dK ?l_rT ?c_rT ?lCrT ?vrT ?flrT ?lccrT ?clrT ?i_rT ?k_rT ?l_dR ?c_dR ?lCdR ?vdR ?fldR ?lccdR ?cldR ?i_dR ?k_dR ?l_dE ?c_dE ?lCdE ?vdE ?fldE ?lccdE ?cldE ?i_dE ?k_dE ?l_kI ?c_kI ?lCkI ?vkI ?flkI ?lcckI ?clkI ?i_kI ?k_kI ?l_bI ?c_bI ?k_bI ?i_bI ?n_bI ?lTbI ?lTkI ?n_rB ?n_dB ?n_dE ?lN ?vN ?spN ?tN ?l_N ?c_N ?k_N ?lS ?vS ?spS ?tS_p ?l_S ?c_S ?k_S ?ui1_1_read ?up1_1_read ?ui12_1_read ?up12_1_read ?ui15_1_read ?up15_1_read ?ui8_8_deed ?up8_8_deed ?ui11_8_deed ?up11_8_deed ?ui12_8_deed ?up12_8_deed ?ui10_8_deed ?up10_8_deed ?ui14_8_deed ?up14_8_deed ?ui9_9_deed ?up9_9_deed ?ui13_9_deed ?up13_9_deed ?ui16_16_init ?up16_16_init ?n_is_int ?l_is_int ?c_is_int ?k_is_int ?n_full_word ?l_full_word ?c_full_word ?k_full_word ?n_is_word ?l_is_word ?c_is_word ?k_is_word ?n_check_word ?l_check_word ?c_check_word ?k_check_word ?n__law_pen ?l__law_pen ?c__law_pen ?k__law_pen ?n__law_draw ?l__law_draw ?c__law_draw ?k__law_draw ?n__law_write ?l__law_write ?c__law_write ?k__law_write ?n__law_read ?l__law_read ?c__law_read ?k__law_read ?n__law_deeds ?l__law_deeds ?c__law_deeds ?k__law_deeds ?n__law_plain_bit ?l__law_plain_bit ?c__law_plain_bit ?k__law_plain_bit ?n__law_bit ?l__law_bit ?c__law_bit ?k__law_bit ?n__law_words_of ?l__law_words_of ?c__law_words_of ?k__law_words_of ?n__law_marks ?l__law_marks ?c__law_marks ?k__law_marks ?n__law_above ?l__law_above ?c__law_above ?k__law_above ?n__law_done ?l__law_done ?c__law_done ?k__law_done ?n_law ?l_law ?c_law ?k_law ?cl0_ ?mo0_ ?cl1_ ?mo1_ ?cl2_ ?mo2_ ?cl3_ ?mo3_ ?cl4_ ?mo4_ ?cl5_ ?mo5_ ?cl6_ ?mo6_ ?cl7_ ?mo7_ ?cl8_ ?mo8_ ?cl9_ ?mo9_ ?cl10_ ?mo10_ ?cl11_ ?mo11_ ?cl12_ ?mo12_ ?cl13_ ?mo13_ ?cl14_ ?mo14_ ?cl15_ ?mo15_ ?cl16_ ?mo16_ ?kitAll ?mb0_ ?rb0_ ?gb0_ ?vb0_ ?fw0_ ?q_wa0 ?sw0_ ?mb1_ ?rb1_ ?gb1_ ?vb1_ ?fw1_ ?q_wa1 ?sw1_ ?mb2_ ?rb2_ ?gb2_ ?vb2_ ?fw2_ ?q_wa2 ?sw2_ ?mb3_ ?rb3_ ?gb3_ ?vb3_ ?fw3_ ?q_wa3 ?sw3_ ?mb4_ ?rb4_ ?gb4_ ?vb4_ ?fw4_ ?q_wa4 ?sw4_ ?mb5_ ?rb5_ ?gb5_ ?vb5_ ?fw5_ ?q_wa5 ?sw5_ ?mb6_ ?rb6_ ?gb6_ ?vb6_ ?fw6_ ?q_wa6 ?sw6_ ?mb7_ ?rb7_ ?gb7_ ?vb7_ ?fw7_ ?q_wa7 ?sw7_ ?mb8_ ?rb8_ ?gb8_ ?vb8_ ?fw8_ ?q_wa8 ?sw8_ ?mb9_ ?rb9_ ?gb9_ ?vb9_ ?fw9_ ?q_wa9 ?sw9_ ?mb10_ ?rb10_ ?gb10_ ?vb10_ ?fw10_ ?q_wa10 ?sw10_ ?mb11_ ?rb11_ ?gb11_ ?vb11_ ?fw11_ ?q_wa11 ?sw11_ ?mb12_ ?rb12_ ?gb12_ ?vb12_ ?fw12_ ?q_wa12 ?sw12_ ?mb13_ ?rb13_ ?gb13_ ?vb13_ ?fw13_ ?q_wa13 ?sw13_ ?mb14_ ?rb14_ ?gb14_ ?vb14_ ?fw14_ ?q_wa14 ?sw14_ ?mb15_ ?rb15_ ?gb15_ ?vb15_ ?fw15_ ?q_wa15 ?sw15_
      (case n_Kind => k_is)
      (case n_WRITES => k_is)
      (case n_INVERTED => k_is)
      (case n_BitError => k_is)
      (case n_Bit => k_is)
      (case n_TakenBit => k_is)
      (case n_ClearedBit => k_is)
      (case n_ZeroClearedBit => k_is)
      (case n_SetBit => k_is)
      (case n_FlippedBit => k_is)
      (case n_OnceBit => k_is)
      (case n_DeafBit => k_is)
      (case n_RaisedBit => k_is)
      (case n_EndedBit => k_is)
      (case n_DriftingBit => k_is)
      (case n_EventBit => k_is)
      (case n_TakenEventBit => k_is)
      (case n_StartBit => k_is)
      (case n_GaugeBit => k_is)
      (case n_SealedBit => k_is)
      (case n_KindBit => k_is)
      (case n_SPENT => k_is)
      (case no_int => k_is)
      (case no_len => k_is)
      (case no_abs => k_is)
      (case no_list => k_is)
      (case no_repr => k_is)
      (case no_range => k_is)
      (case no_str => k_is)
      (case no_isinstance => k_is)
      (case no_bool => k_is)
      (case no_tuple => k_is)
      (case no_super => k_is)
      (case no_zip => k_is)
      (case no_set => k_is)
      (case no_sorted => k_is)
      (case pg => k_is)
      (case hd => k_is)
      (case po => k_is)
      (case fd_C_setattr => k_is)
      (case fd_C_reading => k_is)
      (case fd_C_writing => k_is)
      (case fd_C_device => k_is)
      (case fd_C_states => k_is)
      (case fd_C_class => k_is)
      (case fd_C_ne => k_is)
      (case isG => k_is)
      (case isT => k_is)
      (case isM => k_is)
      (case mk => k_is)
      (case kc => k_is)
      (case mcT => k_is)
      (case rdI => k_is)
      (case gaI => k_is)
      (case v_READINGS => k_is)
      (case q_aR => k_is)
      (case v_WRITINGS => k_is)
      (case q_bW => k_is)
      (case v_DEVICES => k_is)
      (case q_aD => k_is)
      (case lW => k_is)
      (case lI => k_is)
      (case kW => repeat (first | exact True.intro | refine ⟨⟨_, _, rfl, rfl⟩, ?_⟩))
      (case kI => repeat (first | exact True.intro | refine ⟨⟨_, _, rfl, rfl⟩, ?_⟩))
      (case g_w_store => k_is)
      (case q_w_store => k_is)
      (case q_w_storea => k_is)
      (case q_w_storeb => k_is)
      (case g_w_clear1 => k_is)
      (case q_w_clear1 => k_is)
      (case q_w_clear1a => k_is)
      (case q_w_clear1b => k_is)
      (case g_w_clear0 => k_is)
      (case q_w_clear0 => k_is)
      (case q_w_clear0a => k_is)
      (case q_w_clear0b => k_is)
      (case g_w_set1 => k_is)
      (case q_w_set1 => k_is)
      (case q_w_set1a => k_is)
      (case q_w_set1b => k_is)
      (case g_w_flip1 => k_is)
      (case q_w_flip1 => k_is)
      (case q_w_flip1a => k_is)
      (case q_w_flip1b => k_is)
      (case g_w_once => k_is)
      (case q_w_once => k_is)
      (case q_w_oncea => k_is)
      (case q_w_onceb => k_is)
      (case g_w_none => k_is)
      (case q_w_none => k_is)
      (case q_w_nonea => k_is)
      (case q_w_noneb => k_is)
      (case g_i_still => k_is)
      (case q_i_still => k_is)
      (case g_i_raise => k_is)
      (case q_i_raise => k_is)
      (case g_i_end => k_is)
      (case q_i_end => k_is)
      (case g_i_drift => k_is)
      (case q_i_drift => k_is)
      (case a_Kind___init__ => k_is)
      (case i_Kind___init__ => k_is)
      (case l_Kind___init__ => k_is)
      (case c_Kind___init__ => k_is)
      (case k_Kind___init__ => k_is)
      (case a_Kind_after_read => k_is)
      (case i_Kind_after_read => k_is)
      (case l_Kind_after_read => k_is)
      (case c_Kind_after_read => k_is)
      (case k_Kind_after_read => k_is)
      (case a_Kind_after_write => k_is)
      (case i_Kind_after_write => k_is)
      (case l_Kind_after_write => k_is)
      (case c_Kind_after_write => k_is)
      (case k_Kind_after_write => k_is)
      (case a_Kind_unguarded => k_is)
      (case i_Kind_unguarded => k_is)
      (case l_Kind_unguarded => k_is)
      (case c_Kind_unguarded => k_is)
      (case k_Kind_unguarded => k_is)
      (case a_Kind_deeds => k_is)
      (case i_Kind_deeds => k_is)
      (case l_Kind_deeds => k_is)
      (case c_Kind_deeds => k_is)
      (case k_Kind_deeds => k_is)
      (case a_Kind___eq__ => k_is)
      (case i_Kind___eq__ => k_is)
      (case l_Kind___eq__ => k_is)
      (case c_Kind___eq__ => k_is)
      (case k_Kind___eq__ => k_is)
      (case n_InvalidWord => k_is)
      (case ty2 => k_is)
      (case sB2 => k_is)
      (case fd_E2_value => k_is)
      (case sV2 => k_is)
      (case fBE => k_is)
      (case cBE => k_is)
      (case opq => k_is)
      (case topE => rfl)
      (case clE2 => k_is)
      (case veE2 => rfl)
      (case fd_E2_setattr => k_is)
      (case kE2 => k_is)
      (case iniE2 => k_is)
      (case fnE2 => k_is)
      (case lE2 => k_is)
      (case cE2 => k_is)
      (case lC2 => k_is)
      (case vE2 => rfl)
      (case fE2 => rfl)
      (case lcc2 => k_is)
      (case mE2 => k_is)
      (case mBE2 => rfl)
      (case pg0 => k_is)
      (case hd0 => k_is)
      (case po0 => k_is)
      (case fd_B0_setattr => k_is)
      (case fd_B0_state => k_is)
      (case mk0 => k_is)
      (case kc0 => k_is)
      (case in0 => k_is)
      (case rd0 => k_is)
      (case wr0 => k_is)
      (case dd0 => k_is)
      (case nw0 => k_is)
      (case st0 => k_is)
      (case pg1 => first | kernel_rfl | k_is)
      (case hd1 => first | kernel_rfl | k_is)
      (case po1 => first | kernel_rfl | k_is)
      (case fd_B1_setattr => first | kernel_rfl | k_is)
      (case fd_B1_state => first | kernel_rfl | k_is)
      (case mk1 => first | kernel_rfl | k_is)
      (case kc1 => first | kernel_rfl | k_is)
      (case in1 => first | kernel_rfl | k_is)
      (case rd1 => k_is)
      (case wr1 => first | kernel_rfl | k_is)
      (case dd1 => first | kernel_rfl | k_is)
      (case nw1 => first | kernel_rfl | k_is)
      (case st1 => first | kernel_rfl | k_is)
      (case pg2 => first | kernel_rfl | k_is)
      (case hd2 => first | kernel_rfl | k_is)
      (case po2 => first | kernel_rfl | k_is)
      (case fd_B2_setattr => first | kernel_rfl | k_is)
      (case fd_B2_state => first | kernel_rfl | k_is)
      (case mk2 => first | kernel_rfl | k_is)
      (case kc2 => first | kernel_rfl | k_is)
      (case in2 => first | kernel_rfl | k_is)
      (case rd2 => first | kernel_rfl | k_is)
      (case wr2 => k_is)
      (case dd2 => first | kernel_rfl | k_is)
      (case nw2 => first | kernel_rfl | k_is)
      (case st2 => first | kernel_rfl | k_is)
      (case pg3 => first | kernel_rfl | k_is)
      (case hd3 => first | kernel_rfl | k_is)
      (case po3 => first | kernel_rfl | k_is)
      (case fd_B3_setattr => first | kernel_rfl | k_is)
      (case fd_B3_state => first | kernel_rfl | k_is)
      (case mk3 => first | kernel_rfl | k_is)
      (case kc3 => first | kernel_rfl | k_is)
      (case in3 => first | kernel_rfl | k_is)
      (case rd3 => first | kernel_rfl | k_is)
      (case wr3 => k_is)
      (case dd3 => first | kernel_rfl | k_is)
      (case nw3 => first | kernel_rfl | k_is)
      (case st3 => first | kernel_rfl | k_is)
      (case pg4 => first | kernel_rfl | k_is)
      (case hd4 => first | kernel_rfl | k_is)
      (case po4 => first | kernel_rfl | k_is)
      (case fd_B4_setattr => first | kernel_rfl | k_is)
      (case fd_B4_state => first | kernel_rfl | k_is)
      (case mk4 => first | kernel_rfl | k_is)
      (case kc4 => first | kernel_rfl | k_is)
      (case in4 => first | kernel_rfl | k_is)
      (case rd4 => first | kernel_rfl | k_is)
      (case wr4 => k_is)
      (case dd4 => first | kernel_rfl | k_is)
      (case nw4 => first | kernel_rfl | k_is)
      (case st4 => first | kernel_rfl | k_is)
      (case pg5 => first | kernel_rfl | k_is)
      (case hd5 => first | kernel_rfl | k_is)
      (case po5 => first | kernel_rfl | k_is)
      (case fd_B5_setattr => first | kernel_rfl | k_is)
      (case fd_B5_state => first | kernel_rfl | k_is)
      (case mk5 => first | kernel_rfl | k_is)
      (case kc5 => first | kernel_rfl | k_is)
      (case in5 => first | kernel_rfl | k_is)
      (case rd5 => first | kernel_rfl | k_is)
      (case wr5 => k_is)
      (case dd5 => first | kernel_rfl | k_is)
      (case nw5 => first | kernel_rfl | k_is)
      (case st5 => first | kernel_rfl | k_is)
      (case pg6 => first | kernel_rfl | k_is)
      (case hd6 => first | kernel_rfl | k_is)
      (case po6 => first | kernel_rfl | k_is)
      (case fd_B6_setattr => first | kernel_rfl | k_is)
      (case fd_B6_state => first | kernel_rfl | k_is)
      (case mk6 => first | kernel_rfl | k_is)
      (case kc6 => first | kernel_rfl | k_is)
      (case in6 => first | kernel_rfl | k_is)
      (case rd6 => first | kernel_rfl | k_is)
      (case wr6 => k_is)
      (case dd6 => first | kernel_rfl | k_is)
      (case nw6 => first | kernel_rfl | k_is)
      (case st6 => first | kernel_rfl | k_is)
      (case pg7 => first | kernel_rfl | k_is)
      (case hd7 => first | kernel_rfl | k_is)
      (case po7 => first | kernel_rfl | k_is)
      (case fd_B7_setattr => first | kernel_rfl | k_is)
      (case fd_B7_state => first | kernel_rfl | k_is)
      (case mk7 => first | kernel_rfl | k_is)
      (case kc7 => first | kernel_rfl | k_is)
      (case in7 => first | kernel_rfl | k_is)
      (case rd7 => first | kernel_rfl | k_is)
      (case wr7 => k_is)
      (case dd7 => first | kernel_rfl | k_is)
      (case nw7 => first | kernel_rfl | k_is)
      (case st7 => first | kernel_rfl | k_is)
      (case pg8 => first | kernel_rfl | k_is)
      (case hd8 => first | kernel_rfl | k_is)
      (case po8 => first | kernel_rfl | k_is)
      (case fd_B8_setattr => first | kernel_rfl | k_is)
      (case fd_B8_state => first | kernel_rfl | k_is)
      (case mk8 => first | kernel_rfl | k_is)
      (case kc8 => first | kernel_rfl | k_is)
      (case in8 => first | kernel_rfl | k_is)
      (case rd8 => first | kernel_rfl | k_is)
      (case wr8 => first | kernel_rfl | k_is)
      (case dd8 => k_is)
      (case nw8 => first | kernel_rfl | k_is)
      (case st8 => first | kernel_rfl | k_is)
      (case pg9 => first | kernel_rfl | k_is)
      (case hd9 => first | kernel_rfl | k_is)
      (case po9 => first | kernel_rfl | k_is)
      (case fd_B9_setattr => first | kernel_rfl | k_is)
      (case fd_B9_state => first | kernel_rfl | k_is)
      (case mk9 => first | kernel_rfl | k_is)
      (case kc9 => first | kernel_rfl | k_is)
      (case in9 => first | kernel_rfl | k_is)
      (case rd9 => first | kernel_rfl | k_is)
      (case wr9 => first | kernel_rfl | k_is)
      (case dd9 => k_is)
      (case nw9 => first | kernel_rfl | k_is)
      (case st9 => first | kernel_rfl | k_is)
      (case pg10 => first | kernel_rfl | k_is)
      (case hd10 => first | kernel_rfl | k_is)
      (case po10 => first | kernel_rfl | k_is)
      (case fd_B10_setattr => first | kernel_rfl | k_is)
      (case fd_B10_state => first | kernel_rfl | k_is)
      (case mk10 => first | kernel_rfl | k_is)
      (case kc10 => first | kernel_rfl | k_is)
      (case in10 => first | kernel_rfl | k_is)
      (case rd10 => first | kernel_rfl | k_is)
      (case wr10 => first | kernel_rfl | k_is)
      (case dd10 => first | kernel_rfl | k_is)
      (case nw10 => first | kernel_rfl | k_is)
      (case st10 => first | kernel_rfl | k_is)
      (case pg11 => first | kernel_rfl | k_is)
      (case hd11 => first | kernel_rfl | k_is)
      (case po11 => first | kernel_rfl | k_is)
      (case fd_B11_setattr => first | kernel_rfl | k_is)
      (case fd_B11_state => first | kernel_rfl | k_is)
      (case mk11 => first | kernel_rfl | k_is)
      (case kc11 => first | kernel_rfl | k_is)
      (case in11 => first | kernel_rfl | k_is)
      (case rd11 => first | kernel_rfl | k_is)
      (case wr11 => first | kernel_rfl | k_is)
      (case dd11 => first | kernel_rfl | k_is)
      (case nw11 => first | kernel_rfl | k_is)
      (case st11 => first | kernel_rfl | k_is)
      (case pg12 => first | kernel_rfl | k_is)
      (case hd12 => first | kernel_rfl | k_is)
      (case po12 => first | kernel_rfl | k_is)
      (case fd_B12_setattr => first | kernel_rfl | k_is)
      (case fd_B12_state => first | kernel_rfl | k_is)
      (case mk12 => first | kernel_rfl | k_is)
      (case kc12 => first | kernel_rfl | k_is)
      (case in12 => first | kernel_rfl | k_is)
      (case rd12 => first | kernel_rfl | k_is)
      (case wr12 => first | kernel_rfl | k_is)
      (case dd12 => first | kernel_rfl | k_is)
      (case nw12 => first | kernel_rfl | k_is)
      (case st12 => first | kernel_rfl | k_is)
      (case pg13 => first | kernel_rfl | k_is)
      (case hd13 => first | kernel_rfl | k_is)
      (case po13 => first | kernel_rfl | k_is)
      (case fd_B13_setattr => first | kernel_rfl | k_is)
      (case fd_B13_state => first | kernel_rfl | k_is)
      (case mk13 => first | kernel_rfl | k_is)
      (case kc13 => first | kernel_rfl | k_is)
      (case in13 => first | kernel_rfl | k_is)
      (case rd13 => first | kernel_rfl | k_is)
      (case wr13 => first | kernel_rfl | k_is)
      (case dd13 => first | kernel_rfl | k_is)
      (case nw13 => first | kernel_rfl | k_is)
      (case st13 => first | kernel_rfl | k_is)
      (case pg14 => first | kernel_rfl | k_is)
      (case hd14 => first | kernel_rfl | k_is)
      (case po14 => first | kernel_rfl | k_is)
      (case fd_B14_setattr => first | kernel_rfl | k_is)
      (case fd_B14_state => first | kernel_rfl | k_is)
      (case mk14 => first | kernel_rfl | k_is)
      (case kc14 => first | kernel_rfl | k_is)
      (case in14 => first | kernel_rfl | k_is)
      (case rd14 => first | kernel_rfl | k_is)
      (case wr14 => first | kernel_rfl | k_is)
      (case dd14 => first | kernel_rfl | k_is)
      (case nw14 => first | kernel_rfl | k_is)
      (case st14 => first | kernel_rfl | k_is)
      (case pg15 => first | kernel_rfl | k_is)
      (case hd15 => first | kernel_rfl | k_is)
      (case po15 => first | kernel_rfl | k_is)
      (case fd_B15_setattr => first | kernel_rfl | k_is)
      (case fd_B15_state => first | kernel_rfl | k_is)
      (case mk15 => first | kernel_rfl | k_is)
      (case kc15 => first | kernel_rfl | k_is)
      (case in15 => first | kernel_rfl | k_is)
      (case rd15 => first | kernel_rfl | k_is)
      (case wr15 => first | kernel_rfl | k_is)
      (case dd15 => first | kernel_rfl | k_is)
      (case nw15 => first | kernel_rfl | k_is)
      (case st15 => first | kernel_rfl | k_is)
      (case pg16 => first | kernel_rfl | k_is)
      (case hd16 => first | kernel_rfl | k_is)
      (case po16 => first | kernel_rfl | k_is)
      (case fd_B16_setattr => first | kernel_rfl | k_is)
      (case fd_B16_state => first | kernel_rfl | k_is)
      (case fd_B16_kind => first | kernel_rfl | k_is)
      (case mk16 => first | kernel_rfl | k_is)
      (case kc16 => first | kernel_rfl | k_is)
      (case in16 => k_is)
      (case rd16 => k_is)
      (case wr16 => k_is)
      (case dd16 => k_is)
      (case nw16 => first | kernel_rfl | k_is)
      (case st16 => first | kernel_rfl | k_is)
      (case l_rB => k_is)
      (case c_rB => k_is)
      (case k_rB => k_is)
      (case i_rB => k_is)
      (case l_rK => k_is)
      (case c_rK => k_is)
      (case k_rK => k_is)
      (case i_rK => k_is)
      (case l_wB => k_is)
      (case c_wB => k_is)
      (case k_wB => k_is)
      (case i_wB => k_is)
      (case l_wC => k_is)
      (case c_wC => k_is)
      (case k_wC => k_is)
      (case i_wC => k_is)
      (case l_wZ => k_is)
      (case c_wZ => k_is)
      (case k_wZ => k_is)
      (case i_wZ => k_is)
      (case l_wS => k_is)
      (case c_wS => k_is)
      (case k_wS => k_is)
      (case i_wS => k_is)
      (case l_wF => k_is)
      (case c_wF => k_is)
      (case k_wF => k_is)
      (case i_wF => k_is)
      (case l_wO => k_is)
      (case c_wO => k_is)
      (case k_wO => k_is)
      (case i_wO => k_is)
      (case l_wD => k_is)
      (case c_wD => k_is)
      (case k_wD => k_is)
      (case i_wD => k_is)
      (case l_wK => k_is)
      (case c_wK => k_is)
      (case k_wK => k_is)
      (case i_wK => k_is)
      (case l_dB => k_is)
      (case c_dB => k_is)
      (case k_dB => k_is)
      (case i_dB => k_is)
      (case l_dK => k_is)
      (case c_dK => k_is)
      (case k_dK => k_is)
      (case i_dK => k_is)
      (case l_rT => k_is)
      (case c_rT => k_is)
      (case lCrT => k_is)
      (case vrT => rfl)
      (case flrT => rfl)
      (case lccrT => k_is)
      (case clrT => k_is)
      (case i_rT => k_is)
      (case k_rT => k_is)
      (case l_dR => k_is)
      (case c_dR => k_is)
      (case lCdR => k_is)
      (case vdR => rfl)
      (case fldR => rfl)
      (case lccdR => k_is)
      (case cldR => k_is)
      (case i_dR => k_is)
      (case k_dR => k_is)
      (case l_dE => k_is)
      (case c_dE => k_is)
      (case lCdE => k_is)
      (case vdE => rfl)
      (case fldE => rfl)
      (case lccdE => k_is)
      (case cldE => k_is)
      (case i_dE => k_is)
      (case k_dE => k_is)
      (case l_kI => k_is)
      (case c_kI => k_is)
      (case lCkI => k_is)
      (case vkI => rfl)
      (case flkI => rfl)
      (case lcckI => k_is)
      (case clkI => k_is)
      (case i_kI => k_is)
      (case k_kI => k_is)
      (case l_bI => k_is)
      (case c_bI => k_is)
      (case k_bI => k_is)
      (case i_bI => k_is)
      (case n_bI => first | k_is | kernel_rfl)
      (case lTbI => k_is)
      (case lTkI => k_is)
      (case n_rB => first | k_is | kernel_rfl)
      (case n_dB => first | k_is | kernel_rfl)
      (case n_dE => first | k_is | kernel_rfl)
      (case lN => k_is)
      (case vN => rfl)
      (case spN => first | k_is | kernel_rfl)
      (case tN => first | k_is | kernel_rfl)
      (case l_N => k_is)
      (case c_N => k_is)
      (case k_N => k_is)
      (case lS => k_is)
      (case vS => rfl)
      (case spS => first | k_is | kernel_rfl)
      (case tS_p => first | k_is | kernel_rfl)
      (case l_S => k_is)
      (case c_S => k_is)
      (case k_S => k_is)
      (case ui1_1_read => k_is)
      (case up1_1_read => first | k_is | kernel_rfl | decide +kernel | rfl)
      (case ui12_1_read => k_is)
      (case up12_1_read => first | k_is | kernel_rfl | decide +kernel | rfl)
      (case ui15_1_read => k_is)
      (case up15_1_read => first | k_is | kernel_rfl | decide +kernel | rfl)
      (case ui8_8_deed => k_is)
      (case up8_8_deed => first | k_is | kernel_rfl | decide +kernel | rfl)
      (case ui11_8_deed => k_is)
      (case up11_8_deed => first | k_is | kernel_rfl | decide +kernel | rfl)
      (case ui12_8_deed => k_is)
      (case up12_8_deed => first | k_is | kernel_rfl | decide +kernel | rfl)
      (case ui10_8_deed => k_is)
      (case up10_8_deed => first | k_is | kernel_rfl | decide +kernel | rfl)
      (case ui14_8_deed => k_is)
      (case up14_8_deed => first | k_is | kernel_rfl | decide +kernel | rfl)
      (case ui9_9_deed => k_is)
      (case up9_9_deed => first | k_is | kernel_rfl | decide +kernel | rfl)
      (case ui13_9_deed => k_is)
      (case up13_9_deed => first | k_is | kernel_rfl | decide +kernel | rfl)
      (case ui16_16_init => k_is)
      (case up16_16_init => first | k_is | kernel_rfl | decide +kernel | rfl)
      (case n_is_int => k_is)
      (case l_is_int => k_is)
      (case c_is_int => k_is)
      (case k_is_int => k_is)
      (case n_full_word => k_is)
      (case l_full_word => k_is)
      (case c_full_word => k_is)
      (case k_full_word => k_is)
      (case n_is_word => k_is)
      (case l_is_word => k_is)
      (case c_is_word => k_is)
      (case k_is_word => k_is)
      (case n_check_word => k_is)
      (case l_check_word => k_is)
      (case c_check_word => k_is)
      (case k_check_word => k_is)
      (case n__law_pen => k_is)
      (case l__law_pen => k_is)
      (case c__law_pen => k_is)
      (case k__law_pen => k_is)
      (case n__law_draw => k_is)
      (case l__law_draw => k_is)
      (case c__law_draw => k_is)
      (case k__law_draw => k_is)
      (case n__law_write => k_is)
      (case l__law_write => k_is)
      (case c__law_write => k_is)
      (case k__law_write => k_is)
      (case n__law_read => k_is)
      (case l__law_read => k_is)
      (case c__law_read => k_is)
      (case k__law_read => k_is)
      (case n__law_deeds => k_is)
      (case l__law_deeds => k_is)
      (case c__law_deeds => k_is)
      (case k__law_deeds => k_is)
      (case n__law_plain_bit => k_is)
      (case l__law_plain_bit => k_is)
      (case c__law_plain_bit => k_is)
      (case k__law_plain_bit => k_is)
      (case n__law_bit => k_is)
      (case l__law_bit => k_is)
      (case c__law_bit => k_is)
      (case k__law_bit => k_is)
      (case n__law_words_of => k_is)
      (case l__law_words_of => k_is)
      (case c__law_words_of => k_is)
      (case k__law_words_of => k_is)
      (case n__law_marks => k_is)
      (case l__law_marks => k_is)
      (case c__law_marks => k_is)
      (case k__law_marks => k_is)
      (case n__law_above => k_is)
      (case l__law_above => k_is)
      (case c__law_above => k_is)
      (case k__law_above => k_is)
      (case n__law_done => k_is)
      (case l__law_done => k_is)
      (case c__law_done => k_is)
      (case k__law_done => k_is)
      (case n_law => k_is)
      (case l_law => k_is)
      (case c_law => k_is)
      (case k_law => k_is)
      (case cl0_ => first | kernel_rfl | k_is)
      (case mo0_ => first | kernel_rfl | k_is)
      (case cl1_ => first | kernel_rfl | k_is)
      (case mo1_ => first | kernel_rfl | k_is)
      (case cl2_ => first | kernel_rfl | k_is)
      (case mo2_ => first | kernel_rfl | k_is)
      (case cl3_ => first | kernel_rfl | k_is)
      (case mo3_ => first | kernel_rfl | k_is)
      (case cl4_ => first | kernel_rfl | k_is)
      (case mo4_ => first | kernel_rfl | k_is)
      (case cl5_ => first | kernel_rfl | k_is)
      (case mo5_ => first | kernel_rfl | k_is)
      (case cl6_ => first | kernel_rfl | k_is)
      (case mo6_ => first | kernel_rfl | k_is)
      (case cl7_ => first | kernel_rfl | k_is)
      (case mo7_ => first | kernel_rfl | k_is)
      (case cl8_ => first | kernel_rfl | k_is)
      (case mo8_ => first | kernel_rfl | k_is)
      (case cl9_ => first | kernel_rfl | k_is)
      (case mo9_ => first | kernel_rfl | k_is)
      (case cl10_ => first | kernel_rfl | k_is)
      (case mo10_ => first | kernel_rfl | k_is)
      (case cl11_ => first | kernel_rfl | k_is)
      (case mo11_ => first | kernel_rfl | k_is)
      (case cl12_ => first | kernel_rfl | k_is)
      (case mo12_ => first | kernel_rfl | k_is)
      (case cl13_ => first | kernel_rfl | k_is)
      (case mo13_ => first | kernel_rfl | k_is)
      (case cl14_ => first | kernel_rfl | k_is)
      (case mo14_ => first | kernel_rfl | k_is)
      (case cl15_ => first | kernel_rfl | k_is)
      (case mo15_ => first | kernel_rfl | k_is)
      (case cl16_ => first | kernel_rfl | k_is)
      (case mo16_ => first | kernel_rfl | k_is)
      (case kitAll => kernel_rfl)
      (case mb0_ => k_is)
      (case rb0_ => first | kernel_rfl | k_is)
      (case gb0_ => first | kernel_rfl | k_is)
      (case vb0_ => k_is)
      (case fw0_ => first | kernel_rfl | k_is)
      (case q_wa0 => k_is)
      (case sw0_ => first | kernel_rfl | k_is)
      (case mb1_ => k_is)
      (case rb1_ => first | kernel_rfl | k_is)
      (case gb1_ => first | kernel_rfl | k_is)
      (case vb1_ => k_is)
      (case fw1_ => first | kernel_rfl | k_is)
      (case q_wa1 => k_is)
      (case sw1_ => first | kernel_rfl | k_is)
      (case mb2_ => k_is)
      (case rb2_ => first | kernel_rfl | k_is)
      (case gb2_ => first | kernel_rfl | k_is)
      (case vb2_ => k_is)
      (case fw2_ => first | kernel_rfl | k_is)
      (case q_wa2 => k_is)
      (case sw2_ => first | kernel_rfl | k_is)
      (case mb3_ => k_is)
      (case rb3_ => first | kernel_rfl | k_is)
      (case gb3_ => first | kernel_rfl | k_is)
      (case vb3_ => k_is)
      (case fw3_ => first | kernel_rfl | k_is)
      (case q_wa3 => k_is)
      (case sw3_ => first | kernel_rfl | k_is)
      (case mb4_ => k_is)
      (case rb4_ => first | kernel_rfl | k_is)
      (case gb4_ => first | kernel_rfl | k_is)
      (case vb4_ => k_is)
      (case fw4_ => first | kernel_rfl | k_is)
      (case q_wa4 => k_is)
      (case sw4_ => first | kernel_rfl | k_is)
      (case mb5_ => k_is)
      (case rb5_ => first | kernel_rfl | k_is)
      (case gb5_ => first | kernel_rfl | k_is)
      (case vb5_ => k_is)
      (case fw5_ => first | kernel_rfl | k_is)
      (case q_wa5 => k_is)
      (case sw5_ => first | kernel_rfl | k_is)
      (case mb6_ => k_is)
      (case rb6_ => first | kernel_rfl | k_is)
      (case gb6_ => first | kernel_rfl | k_is)
      (case vb6_ => k_is)
      (case fw6_ => first | kernel_rfl | k_is)
      (case q_wa6 => k_is)
      (case sw6_ => first | kernel_rfl | k_is)
      (case mb7_ => k_is)
      (case rb7_ => first | kernel_rfl | k_is)
      (case gb7_ => first | kernel_rfl | k_is)
      (case vb7_ => k_is)
      (case fw7_ => first | kernel_rfl | k_is)
      (case q_wa7 => k_is)
      (case sw7_ => first | kernel_rfl | k_is)
      (case mb8_ => k_is)
      (case rb8_ => first | kernel_rfl | k_is)
      (case gb8_ => first | kernel_rfl | k_is)
      (case vb8_ => k_is)
      (case fw8_ => first | kernel_rfl | k_is)
      (case q_wa8 => k_is)
      (case sw8_ => first | kernel_rfl | k_is)
      (case mb9_ => k_is)
      (case rb9_ => first | kernel_rfl | k_is)
      (case gb9_ => first | kernel_rfl | k_is)
      (case vb9_ => k_is)
      (case fw9_ => first | kernel_rfl | k_is)
      (case q_wa9 => k_is)
      (case sw9_ => first | kernel_rfl | k_is)
      (case mb10_ => k_is)
      (case rb10_ => first | kernel_rfl | k_is)
      (case gb10_ => first | kernel_rfl | k_is)
      (case vb10_ => k_is)
      (case fw10_ => first | kernel_rfl | k_is)
      (case q_wa10 => k_is)
      (case sw10_ => first | kernel_rfl | k_is)
      (case mb11_ => k_is)
      (case rb11_ => first | kernel_rfl | k_is)
      (case gb11_ => first | kernel_rfl | k_is)
      (case vb11_ => k_is)
      (case fw11_ => first | kernel_rfl | k_is)
      (case q_wa11 => k_is)
      (case sw11_ => first | kernel_rfl | k_is)
      (case mb12_ => k_is)
      (case rb12_ => first | kernel_rfl | k_is)
      (case gb12_ => first | kernel_rfl | k_is)
      (case vb12_ => k_is)
      (case fw12_ => first | kernel_rfl | k_is)
      (case q_wa12 => k_is)
      (case sw12_ => first | kernel_rfl | k_is)
      (case mb13_ => k_is)
      (case rb13_ => first | kernel_rfl | k_is)
      (case gb13_ => first | kernel_rfl | k_is)
      (case vb13_ => k_is)
      (case fw13_ => first | kernel_rfl | k_is)
      (case q_wa13 => k_is)
      (case sw13_ => first | kernel_rfl | k_is)
      (case mb14_ => k_is)
      (case rb14_ => first | kernel_rfl | k_is)
      (case gb14_ => first | kernel_rfl | k_is)
      (case vb14_ => k_is)
      (case fw14_ => first | kernel_rfl | k_is)
      (case q_wa14 => k_is)
      (case sw14_ => first | kernel_rfl | k_is)
      (case mb15_ => k_is)
      (case rb15_ => first | kernel_rfl | k_is)
      (case gb15_ => first | kernel_rfl | k_is)
      (case vb15_ => k_is)
      (case fw15_ => first | kernel_rfl | k_is)
      (case q_wa15 => k_is)
      (case sw15_ => first | kernel_rfl | k_is)
set_option maxRecDepth 100000 in
set_option maxHeartbeats 0 in
theorem KL.run_false (w : World) : KL.all.1 (w.withFollow "special-get-raises" false) := by
  intro os
  kernel_rfl
set_option maxRecDepth 100000 in
set_option maxHeartbeats 0 in
theorem KL.run_true (w : World) : KL.all.1 (w.withFollow "special-get-raises" true) := by
  intro os
  kernel_rfl
set_option maxRecDepth 100000 in
set_option maxHeartbeats 0 in
theorem PySem.Challenge.cw_keptbits_k09_a_family_of_bits_holds : PySem.Challenge.rw_keptbits_k09_a_family_of_bits.Holds := by
  exact KL.all.2 (byRow2 "special-get-raises" KL.run_false KL.run_true)
#print axioms PySem.Challenge.cw_keptbits_k09_a_family_of_bits_holds
