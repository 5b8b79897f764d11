import PyProof.Rows.All
import Wide.All
import OpenK.AllK
import Wide.FinOn
import HandS.ForMost
import HandS.ForExc
import HandS.MakeKw
import HandS.FStr
import HandS.Conv
import HandS.ClsMeth
import KE.KCallOwn
import HandS.IsInst
import PyProof.InstEq
import HandS.Lambda
import HandS.ExcInit
import HandS.ExcIs
import HandS.ExcField
import KE.KExcIs
import KE.KExcSuper
import KE.KExcMake
import HandS.EndTab
import HandS.EndOwn
import HandS.NestedK
import PyProof.P3In
import PyProof.FactsAll.dict_1
import KE.KOpsOwn
import HandS.SlotsOwn
import HandS.Defaults
import PyProof.TwoTypes
import PyProof.Rows.FactsB_and
import PyProof.Rows.FactsB_or
import PyProof.Rows.FactsB_xor
import HandS.Property
import KE.RegKSuper
import HandS.GenList
import HandS.SetFor
import HandS.Strs
import HandS.Zip
import HandS.SetBool
import PyProof.Draws
import HandS.GenYield
import HandS.Text
import HandS.TupAny
import KE.KDictDisplayH
import HandS.TryOnly
import PySem.Challenge.RW_keptbits_k16_whole_runs_of_bits_and_effe
set_option Elab.async false
set_option linter.all false
set_option maxRecDepth 100000
set_option maxHeartbeats 4000000
/-! KG: defs that are promised something where nothing is being shown (no repr under way), so that repr of data is an exact text. -/
namespace KG
open PySem PySem.Spec PyProof.Rows L2

/-- the promise of a def, for callers around which nothing is being shown -/
structure Gd (P : Program) (w : World) (K : PySem.W.Frag) (mg : Str → Option Value) (base : Heap) (CX : CXT) (k : Nat) (f : Addr) (fd : FuncData) (ps : List Str) (sp : Sp) : Prop where
  len : ∀ vs H Q E, sp vs H Q E → vs.length = ps.length
  go : ∀ (A : Around) (outer : List Env) (s : Shared) (H : Hp) (args : Args) (us : List Value) (vs : List V) (Q : VK) (E : XK),
    Room k A → A.guards = some [] → Env0 P w K mg base A outer s H → BindsTo s fd args (ps.zip us) → Vals vs us → sp vs H Q E →
    codeAny (model P w) A (.call (.ref f) args) (CR CX outer P w H s Q E) s

section
variable {P : Program} {w : World} {K : PySem.W.Frag} {mg : Str → Option Value} {base : Heap} {CX : CXT} {k j : Nat} {f : Addr} {fd : FuncData} {ps : List Str} {sp sp' : Sp}
theorem Gd.mono (F : Gd P w K mg base CX j f fd ps sp) (h : j ≤ k) : Gd P w K mg base CX k f fd ps sp :=
  ⟨F.len, fun A o s H a us vs Q E rm => F.go A o s H a us vs Q E (rm.mono h)⟩
theorem Gd.imp (F : Gd P w K mg base CX k f fd ps sp) (h : ∀ vs H Q E, sp' vs H Q E → sp vs H Q E) : Gd P w K mg base CX k f fd ps sp' :=
  ⟨fun vs H Q E q => F.len vs H Q E (h _ _ _ _ q), fun A o s H a us vs Q E rm gd e0 bt rv q => F.go A o s H a us vs Q E rm gd e0 bt rv (h _ _ _ _ q)⟩
theorem Gd.of_ok (F : FnOk P w K mg base CX k f fd ps sp) : Gd P w K mg base CX k f fd ps sp :=
  ⟨F.len, fun A o s H a us vs Q E rm _ e0 bt rv q => F.run A o s H a us vs Q E rm e0 bt rv q⟩

/-- a def by its body -/
theorem gd_of {name qual : Str} {params : Arguments} {body : List Stmt} {scope : Scope} {dV kV doc pm cdv ct oc : Value} {an od : Option Addr}
    {osl : Array (Option Value)} {N : List Str}
    (found : K.lookup f = some ⟨oc, od, .func (PySem.W.fnOf name qual params body scope dV kV doc pm an cdv ct), osl⟩)
    (code : PySem.W.codeIn K cdv qual = true) (sc : FnScope N ps scope) (len : ∀ vs H Q E, sp vs H Q E → vs.length = ps.length)
    (inner : ∀ (A : Around) (outer : List Env) (s : Shared) (H : Hp) (vs : List V) (Q : VK) (E : XK),
      Room k (A.deeper (envOfC qual scope s.heap.objs.size f cdv)) → (A.deeper (envOfC qual scope s.heap.objs.size f cdv)).guards = some [] → sp vs H Q E →
      ∃ t, PSs (cxOf CX P w K mg base N qual scope f cdv A outer s H E) body t ∧ t { nx := fun _ H' => Q .non H', rt := Q } (start N vs) H) :
    Gd P w K mg base CX (k + 1) f (PySem.W.fnOf name qual params body scope dV kV doc pm an cdv ct) ps sp := by
  refine ⟨len, fun A outer s H args us vs Q E rm gd e0 bt rv q0 => ?_⟩
  have llen := len _ _ _ _ q0
  have kin : K.In s.heap := e0.mod.kin.keeps fun b o e => (e0.bs b o e).1
  have nolim : s.heap.NoLimit := e0.mod.nolimit.keeps fun b o e => (e0.bs b o e).1
  have kinds : ∀ y ∈ ps.zip us, scope.names.lookup y.1 = some .local ∨
      (scope.names.lookup y.1 = some .cell ∧ ((cellsFrom (s.heap.objs.size + 1) scope.names []).lookup y.1).isSome = true) := by
    intro ⟨n, v⟩ hy
    rcases sc.par n (List.of_mem_zip hy).1 with z | z
    · exact .inl z
    · exact .inr ⟨z, PySem.W.cellsFrom_some _ _ _ (.inl z)⟩
  refine codeAny_call_function rm.depth (kin _ _ found) rfl sc.co sc.gen rfl (PySem.W.codeRec_of kin code) (bt _ _ _ _ ?_)
  refine wpAny_newFunctionEnv_cells sc.kind kinds fun env he s1 x => ?_
  subst he
  refine ⟨nolim.keeps x.toInCall.keep, codeAny_func ?_⟩
  obtain ⟨t, ht, hq⟩ := inner A outer s H vs Q E (rm.deeper _) gd q0
  have I := inv_start (CX := CX) (E := E) sc rm.hd e0 llen rv x
  refine wpAny_mono (ht.run [] s1 (start N vs) H _ I hq) (fun fl s' hs => ?_) fun e s' hs => hs
  have done : ∀ {σ' : L2.St} {H' : Hp} {v : V} {u : Value}, Inv (cxOf CX P w K mg base N qual scope f cdv A outer s H E) [] σ' H' s' → RelV v u → Q v H' → CE outer P w H s Q u s' :=
    fun {σ' H' v u} J r q => ⟨v, H', J.os, J.bare, J.base, J.hok, r, q⟩
  cases fl with
  | ret u =>
    obtain ⟨v, σ', H', J, r, q⟩ := hs
    exact done J r q
  | next =>
    obtain ⟨σ', H', J, q⟩ := hs
    exact done (v := V.non) (u := Value.none) J rfl q
  | brk => exact hs.elim fun _ h => h.elim fun _ h => False.elim h.2
  | cont => exact hs.elim fun _ h => h.elim fun _ h => False.elim h.2

/-- a def of the text that raises nothing, by its body -/
theorem gd0 {x qual : Str} {st : Stmt} {N : List Str} (F : Fun K x qual st f fd) (sc : FnScope N ps (defScope st)) (len : ∀ vs H Q E, sp vs H Q E → vs.length = ps.length)
    (inner : ∀ (cdv : Value) (A : Around) (outer : List Env) (s : Shared) (H : Hp) (vs : List V) (Q : VK) (E : XK),
      Room k (A.deeper (envOfC qual (defScope st) s.heap.objs.size f cdv)) → (A.deeper (envOfC qual (defScope st) s.heap.objs.size f cdv)).guards = some [] → sp vs H Q E →
      ∃ t, PSs (cxOf CX0 P w K mg base N qual (defScope st) f cdv A outer s H E).nox (defBody st) t ∧ t { nx := fun _ H' => Q .non H', rt := Q } (start N vs) H) :
    Gd P w K mg base CX0 (k + 1) f fd ps sp := by
  obtain ⟨oc, od, kV, doc, pm, an, cdv, ct, osl, rfl, found, code⟩ := F.ex
  exact gd_of found code sc len fun A outer s H vs Q E rm gd q => (inner cdv A outer s H vs Q E rm gd q).elim fun t h => ⟨t, h.1.nox, h.2⟩
/-- a def of the text that may raise, by its body -/
theorem gdX {x qual : Str} {st : Stmt} {N : List Str} (F : Fun K x qual st f fd) (sc : FnScope N ps (defScope st)) (len : ∀ vs H Q E, sp vs H Q E → vs.length = ps.length)
    (inner : ∀ (cdv : Value) (A : Around) (outer : List Env) (s : Shared) (H : Hp) (vs : List V) (Q : VK) (E : XK),
      Room k (A.deeper (envOfC qual (defScope st) s.heap.objs.size f cdv)) → (A.deeper (envOfC qual (defScope st) s.heap.objs.size f cdv)).guards = some [] → sp vs H Q E →
      ∃ t, PSs (cxOf (L2.CX P w) P w K mg base N qual (defScope st) f cdv A outer s H E) (defBody st) t ∧ t { nx := fun _ H' => Q .non H', rt := Q } (start N vs) H) :
    Gd P w K mg base (L2.CX P w) (k + 1) f fd ps sp := by
  obtain ⟨oc, od, kV, doc, pm, an, cdv, ct, osl, rfl, found, code⟩ := F.ex
  exact gd_of found code sc len fun A outer s H vs Q E rm gd q => inner cdv A outer s H vs Q E rm gd q
end

/-! ### calls -/
section
variable {X : Cx} {CX : CXT} {k : Nat} {f C : Addr} {fd : FuncData} {ps ks : List Str} {sp : Sp} {dvs : List V} {ds : List Value} {E : XK} {x m : Str} {p pos apos : Pos} {e o : Expr} {es : List Expr} {kws : List Keyword} {ta te : TE} {t tk : TA}
/-- the callee runs, around it A with the same frames and nothing shown -/
theorem run_at {pins : List (Addr × Obj)} {σ : L2.St} {H : Hp} {s : Shared} {Q : VK} {us ws : List Value} {kw : List (Str × Value)} {vs : List V} {A : Around} {W : Value → Shared → Prop}
    (F : Gd X.prog X.w X.K X.mg X.base CX k f fd ps sp) (rm : Room k A) (gd : A.guards = some []) (e0 : Env0 X.prog X.w X.K X.mg X.base A X.stack s H)
    (pass : ∀ e s', CX X.stack H s E e s' → W e s')
    (I : Inv X pins σ H s) (bt : BindsTo s fd ⟨us, kw⟩ (ps.zip ws)) (r : Vals vs ws) (q : sp vs H Q E) : wpAny (model X.prog X.w) A (call (.ref f) us kw) (EP X pins σ Q) W s := by
  refine wpAny_call (codeAny_mono (F.go A X.stack s H ⟨us, kw⟩ ws vs Q E rm gd e0 bt r q) fun out s' hq => ?_)
  match out, hq with
  | .error e, hq => exact pass e s' hq
  | .ok (.ret u), hq => exact I.after hq
theorem run_g {pins : List (Addr × Obj)} {σ : L2.St} {H : Hp} {s : Shared} {Q : VK} {us ws : List Value} {kw : List (Str × Value)} {vs : List V}
    (F : Gd X.prog X.w X.K X.mg X.base CX k f fd ps sp) (rm : Room k X.A) (gd : X.A.guards = some []) (hx : Passes CX X E)
    (I : Inv X pins σ H s) (bt : BindsTo s fd ⟨us, kw⟩ (ps.zip ws)) (r : Vals vs ws) (q : sp vs H Q E) : wpAny (model X.prog X.w) X.A (call (.ref f) us kw) (EP X pins σ Q) X.xe s :=
  run_at F rm gd I.env0 (fun e s' hq => hx pins σ H s e s' I hq) I bt r q
theorem bind_pos {s : Shared} {us : List Value} {vs : List V} {H : Hp} {Q : VK} (F : Gd X.prog X.w X.K X.mg X.base CX k f fd ps sp) (hb : Binds X.K fd ps ds) (hd : Vals dvs ds) (KX : X.K.In s.heap) (r : Vals vs us) (q : sp (vs ++ dvs) H Q E) :
    BindsTo s fd ⟨us, []⟩ (ps.zip (us ++ ds)) := hb s us KX (by rw [← (r.append hd).length]; exact F.len _ _ _ _ q)

/-- f(e, ..) -/
theorem pe_gcall (F : Gd X.prog X.w X.K X.mg X.base CX k f fd ps sp) (rm : Room k X.A) (gd : X.A.guards = some []) (gl : Gl X x) (at_ : X.mg x = some (.ref f)) (kp : PySem.W.keepIn X.K (.ref f) = true) (hb : Binds X.K fd ps ds) (hd : Vals dvs ds) (hx : Passes CX X E)
    (ha : PA X (e :: es) t) (hdb : (x == ("__debug__" : Str)) = false := by decide) (he : starEach (e :: es) X.env = (false, eval e X.env) :: starEach es X.env := by rfl) (hpl : (backTo pos (starEach es X.env)).any (·.1) = false := by rfl) :
    PE X (.Call (.Name x p) (e :: es) [] pos) (tCall sp dvs E t) :=
  ⟨fun pins s σ H Q I h => wpAny_Call_Name_kw (ld_glob I gl at_ (PySem.W.callWith_K (h₀ := X.base) I.ok.mod.kin kp
    (thn (ha.run pos pins s σ H _ I h) fun us s1 ⟨vs, H1, J, r, q⟩ => ⟨J.kIn, run_g F rm gd hx J (bind_pos F hb hd J.kIn r q) (r.append hd) q⟩) he hpl) hdb)⟩
/-- f() -/
theorem pe_gcall0 (F : Gd X.prog X.w X.K X.mg X.base CX k f fd ps sp) (rm : Room k X.A) (gd : X.A.guards = some []) (gl : Gl X x) (at_ : X.mg x = some (.ref f)) (kp : PySem.W.keepIn X.K (.ref f) = true) (hb : Binds X.K fd ps ds) (hd : Vals dvs ds) (hx : Passes CX X E)
    (hdb : (x == ("__debug__" : Str)) = false := by decide) : PE X (.Call (.Name x p) [] [] pos) (tCall sp dvs E tNil) :=
  ⟨fun pins s σ H Q I h => wpAny_Call_Name_kw (ld_glob I gl at_ (PySem.W.callWith_K0 I.kIn kp (run_g (us := []) (vs := dvs) F rm gd hx I (bind_pos (vs := []) F hb hd I.kIn .nil h) (Vals.append .nil hd) h)) hdb)⟩
/-- o.m(e, ..) -/
theorem pe_gmeth {pl : Sem Bool} (he : PE X o ta) (c : Cls X.K C) (hm : Meth X.K C m f) (F : Gd X.prog X.w X.K X.mg X.base CX k f fd ps sp) (rm : Room k X.A) (gd : X.A.guards = some []) (hb : Binds X.K fd ps ds) (hd : Vals dvs ds) (hx : Passes CX X E) (ha : PA X (e :: es) t)
    (hst : starEach (e :: es) X.env = (false, eval e X.env) :: starEach es X.env := by rfl) (hpl : (backTo pos (starEach es X.env)).any (·.1) = false := by rfl)
    (ht : eval (.Call (.Attribute o m apos) (e :: es) [] pos) X.env = (do
      let w ← eval o X.env
      standAt apos.atName
      let (g, a) ← holding [w] (getMethod w m pl)
      callWith pos g a (backTo pos (starEach (e :: es) X.env)) (backToKw pos (keywordEach [] X.env))) := by rfl) :
    PE X (.Call (.Attribute o m apos) (e :: es) [] pos) (tMeth C m sp dvs E ta t) := by
  refine ⟨fun pins s σ H Q I h => PySem.W.methodCall_KW (pl := pl) (thn (he.run pins s σ H _ I h) fun u s1 ⟨y, H1, I1, ry, a, dx, fs, ey, ea, l, q⟩ => ?_) ht⟩
  subst ey
  obtain rfl : u = Value.ref a := ry
  refine getmeth_ok I1 ea c hm l (PySem.W.callWith_K (first := [.ref a]) (h₀ := X.base) I.ok.mod.kin hm.kp (thn (ha.run pos pins s1 σ H1 _ I1 q) fun us s2 ⟨vs, H2, J, r, q2⟩ => ⟨J.kIn, ?_⟩) hst hpl)
  have r1 : Vals (V.ref a :: vs) (Value.ref a :: us) := .cons rfl r
  exact run_g F rm gd hx J (bind_pos F hb hd J.kIn r1 q2) (r1.append hd) q2
/-- o.m() -/
theorem pe_gmeth0 {pl : Sem Bool} (he : PE X o ta) (c : Cls X.K C) (hm : Meth X.K C m f) (F : Gd X.prog X.w X.K X.mg X.base CX k f fd ps sp) (rm : Room k X.A) (gd : X.A.guards = some []) (hb : Binds X.K fd ps ds) (hd : Vals dvs ds) (hx : Passes CX X E)
    (ht : eval (.Call (.Attribute o m apos) [] [] pos) X.env = (do
      let w ← eval o X.env
      standAt apos.atName
      let (g, a) ← holding [w] (getMethod w m pl)
      callWith pos g a (backTo pos (starEach [] X.env)) (backToKw pos (keywordEach [] X.env))) := by rfl) :
    PE X (.Call (.Attribute o m apos) [] [] pos) (tMeth C m sp dvs E ta tNil) := by
  refine ⟨fun pins s σ H Q I h => PySem.W.methodCall_KW (pl := pl) (thn (he.run pins s σ H _ I h) fun u s1 ⟨y, H1, J, ry, a, dx, fs, ey, ea, l, q⟩ => ?_) ht⟩
  subst ey
  obtain rfl : u = Value.ref a := ry
  have r1 : Vals [V.ref a] [Value.ref a] := .cons rfl .nil
  exact getmeth_ok J ea c hm l (PySem.W.callWith_K0 (first := [.ref a]) J.kIn hm.kp (run_g (us := [.ref a]) F rm gd hx J (bind_pos (vs := [.ref a]) F hb hd J.kIn r1 q) (r1.append hd) q))

/-- some of a list, by places -/
def sel {α : Type} (is : List Nat) (l : List α) : List α := is.filterMap fun i => l[i]?
theorem sel_vals : ∀ (is : List Nat) {vs : List V} {us : List Value}, Vals vs us → Vals (sel is vs) (sel is us)
  | [], _, _, _ => .nil
  | i :: is, vs, us, r => by
    have ih := sel_vals is r
    unfold sel at ih ⊢
    rw [List.filterMap_cons, List.filterMap_cons]
    cases h : vs[i]? with
    | none => rw [r.none_of h]; exact ih
    | some v =>
      obtain ⟨u, e, rv⟩ := r.get h
      rw [e]
      exact .cons rv ih
/-- keywords behind n values: the keywords' values in the order of is -/
theorem kbn_of {K : PySem.W.Frag} {qual : Str} {st : Stmt} (F : Fun K x qual st f fd) (n : Nat) (ks : List Str) (is : List Nat)
    (h : ∀ (kV doc pm : Value) (an : Option Addr) (cdv ct : Value) (us ws : List Value), us.length = n → ws.length = ks.length →
      bindArgs (PySem.W.fnOf x qual (defArgs st) (defBody st) (defScope st) .none kV doc pm an cdv ct) ⟨us, ks.zip ws⟩ = pure (ps.zip (us ++ sel is ws))) :
    KBn K fd ps n ks (fun us ws => us ++ sel is ws) (fun vs zs => vs ++ sel is zs) := by
  obtain ⟨oc, od, kV, doc, pm, an, cdv, ct, osl, rfl, _, _⟩ := F.ex
  exact ⟨fun s us ws _ l1 l2 => .of_eq (h kV doc pm an cdv ct us ws l1 l2), fun r rz => r.append (sel_vals is rz)⟩
variable {n : Nat} {g : List Value → List Value → List Value} {gV : List V → List V → List V}
/-- o.m(k = v, ..) -/
def tMethK (C : Addr) (m : Str) (j : Nat) (sp : Sp) (gV : List V → List V → List V) (E : XK) (ta : TE) (tk : TA) : TE := fun σ H Q => ta σ H fun x H1 => ∃ a dx fs, x = .ref a ∧ H1 a = some (.ins C dx fs) ∧ fs.lookup m = none ∧
  tk σ H1 fun zs H2 => zs.length = j ∧ sp (gV [x] zs) H2 Q E
theorem pe_gmethK {pl : Sem Bool} (he : PE X o ta) (c : Cls X.K C) (hm : Meth X.K C m f) (F : Gd X.prog X.w X.K X.mg X.base CX k f fd ps sp) (rm : Room k X.A) (gd : X.A.guards = some []) (hb : KBn X.K fd ps 1 ks g gV) (hx : Passes CX X E) (hkw : PK X kws tk)
    (hall : (backToKw pos (keywordEach kws X.env)).all (·.1.isSome) = true := by rfl) (hks : (backToKw pos (keywordEach kws X.env)).filterMap (·.1) = ks := by rfl)
    (hpl : ((backTo pos (starEach [] X.env)).any (·.1) || (backToKw pos (keywordEach kws X.env)).any (·.1.isNone)) = false := by rfl)
    (ht : eval (.Call (.Attribute o m apos) [] kws pos) X.env = (do
      let w ← eval o X.env
      standAt apos.atName
      let (g, a) ← holding [w] (getMethod w m pl)
      callWith pos g a (backTo pos (starEach [] X.env)) (backToKw pos (keywordEach kws X.env))) := by rfl) :
    PE X (.Call (.Attribute o m apos) [] kws pos) (tMethK C m ks.length sp gV E ta tk) := by
  refine ⟨fun pins s σ H Q I h => PySem.W.methodCall_KW (pl := pl) (thn (he.run pins s σ H _ I h) fun u s1 ⟨y, H1, I1, ry, a, dx, fs, ey, ea, l, q⟩ => ?_) ht⟩
  subst ey
  obtain rfl : u = Value.ref a := ry
  refine getmeth_ok I1 ea c hm l (PySem.W.callWith_KW0 (first := [.ref a]) (h₀ := X.base) I.ok.mod.kin hm.kp hall (thn (hkw.run pos pins s1 σ H1 _ I1 q) fun ws s2 ⟨zs, H2, J, rz, lz, q2⟩ => ⟨J.kIn, ?_⟩) hpl)
  rw [hks]
  have r1 : Vals [V.ref a] [Value.ref a] := .cons rfl .nil
  exact run_g (us := [.ref a]) F rm gd hx J (hb.to s2 [.ref a] ws J.kIn rfl (rz.length.symm.trans lz)) (hb.rel r1 rz) q2

/-! ### new instances -/
theorem und_make {A : Around} {us : List Value} {kw : List (Str × Value)} : (A.under (.builtin "type.__call__" ⟨.ref C :: us, kw⟩)).guards = A.guards := by
  first | rfl | simp [Around.under, Code.guards, Code.isGuard, guardIds, pushGuards]
theorem run_gmake {pins : List (Addr × Obj)} {σ : L2.St} {H : Hp} {s : Shared} {Q : VK} {us : List Value} {kw : List (Str × Value)} (gW : Value → List Value) (gZ : V → List V) (M : Mk X.K C f) (F : Gd X.prog X.w X.K X.mg X.base CX k f fd ps sp) (rm : Room (k + 1) X.A) (gd : X.A.guards = some [])
    (hb : ∀ (s : Shared) (y : Addr), X.K.In s.heap → BindsTo s fd ⟨.ref y :: us, kw⟩ (ps.zip (gW (.ref y)))) (hv : ∀ y : Addr, Vals (gZ (.ref y)) (gW (.ref y)))
    (hx : Passes CX X E) (I : Inv X pins σ H s)
    (h : ∀ y dy, H y = none → H dy = none → dy ≠ y → sp (gZ (.ref y)) (upd (upd H dy (.own y)) y (.ins C dy [])) (fun v H2 => v = .non ∧ Q (.ref y) H2) E) :
    wpAny (model X.prog X.w) X.A (call (.ref C) us kw) (EP X pins σ Q) X.xe s := by
  have hq := h (s.heap.objs.size + 1) s.heap.objs.size (I.hok.fresh (Nat.le_succ _)) (I.hok.fresh (Nat.le_refl _)) (Nat.ne_of_lt (Nat.lt_succ_self _))
  have J := Inv.made (C := C) I
  refine wpAny_call (make_map (f := f) I.kIn M.makes M.init (beq_iff_eq.mp M.fn) (codeAny_mono (F.go _ X.stack _ _ ⟨Value.ref (s.heap.objs.size + 1) :: us, kw⟩ _ _ _ E (rm.make C us kw)
    (und_make.trans gd) (J.env0.make C us kw) (hb _ (s.heap.objs.size + 1) J.kIn) (hv _) hq) fun out s' hq' => ?_))
  match out, hq' with
  | .error e, hq' => exact hx pins σ _ _ e s' J hq'
  | .ok (.ret u), hq' =>
    obtain ⟨v, H', I3, rv, ev, q3⟩ := J.after hq'
    subst ev
    exact ⟨rv, ⟨V.ref (s.heap.objs.size + 1), H', I3, rfl, q3⟩⟩
/-- C(e, ..) -/
theorem pe_gmake (M : Mk X.K C f) (F : Gd X.prog X.w X.K X.mg X.base CX k f fd ps sp) (rm : Room (k + 1) X.A) (gd : X.A.guards = some []) (gl : Gl X x) (at_ : X.mg x = some (.ref C)) (hb : Binds X.K fd ps ds) (hd : Vals dvs ds) (hx : Passes CX X E)
    (ha : PA X (e :: es) t) (hdb : (x == ("__debug__" : Str)) = false := by decide) (he : starEach (e :: es) X.env = (false, eval e X.env) :: starEach es X.env := by rfl) (hpl : (backTo pos (starEach es X.env)).any (·.1) = false := by rfl) :
    PE X (.Call (.Name x p) (e :: es) [] pos) (tMake C sp dvs E t) := by
  refine ⟨fun pins s σ H Q I h => wpAny_Call_Name_kw (ld_glob I gl at_ (PySem.W.callWith_K (h₀ := X.base) I.ok.mod.kin M.kp (thn (ha.run pos pins s σ H _ I h) fun us s1 ⟨vs, H1, J, r, q⟩ => ⟨J.kIn, ?_⟩) he hpl) hdb)⟩
  have rr : ∀ y : Addr, Vals (V.ref y :: vs ++ dvs) (Value.ref y :: us ++ ds) := fun y => .cons rfl (r.append hd)
  have hl : ∀ y : Addr, (Value.ref y :: us ++ ds).length = ps.length := fun y => by
    have e := (rr y).length
    have q1 := q (s1.heap.objs.size + 1) s1.heap.objs.size (J.hok.fresh (Nat.le_succ _)) (J.hok.fresh (Nat.le_refl _)) (Nat.ne_of_lt (Nat.lt_succ_self _))
    have e1 := F.len _ _ _ _ q1
    rw [← e, ← e1]
    simp
  exact run_gmake (fun y => y :: us ++ ds) (fun y => y :: vs ++ dvs) M F rm gd (fun s y KX => hb s (.ref y :: us) KX (hl y)) rr hx J q
/-- C(k = v, ..) -/
def tMakeKG (C : Addr) (j : Nat) (sp : Sp) (gV : List V → List V → List V) (E : XK) (tk : TA) : TE := fun σ H Q => tk σ H fun zs H2 => zs.length = j ∧
  ∀ x dx, H2 x = none → H2 dx = none → dx ≠ x → sp (gV [.ref x] zs) (upd (upd H2 dx (.own x)) x (.ins C dx [])) (fun v H3 => v = .non ∧ Q (.ref x) H3) E
theorem pe_gmakeK (M : Mk X.K C f) (F : Gd X.prog X.w X.K X.mg X.base CX k f fd ps sp) (rm : Room (k + 1) X.A) (gd : X.A.guards = some []) (gl : Gl X x) (at_ : X.mg x = some (.ref C)) (hb : KBn X.K fd ps 1 ks g gV) (hx : Passes CX X E)
    (hkw : PK X kws tk) (hall : (backToKw pos (keywordEach kws X.env)).all (·.1.isSome) = true := by rfl) (hks : (backToKw pos (keywordEach kws X.env)).filterMap (·.1) = ks := by rfl)
    (hdb : (x == ("__debug__" : Str)) = false := by decide)
    (hpl : ((backTo pos (starEach [] X.env)).any (·.1) || (backToKw pos (keywordEach kws X.env)).any (·.1.isNone)) = false := by rfl) :
    PE X (.Call (.Name x p) [] kws pos) (tMakeKG C ks.length sp gV E tk) := by
  refine ⟨fun pins s σ H Q I h => wpAny_Call_Name_kw (ld_glob I gl at_ (PySem.W.callWith_KW0 (first := []) (h₀ := X.base) I.ok.mod.kin M.kp hall (thn (hkw.run pos pins s σ H _ I h) fun ws s2 ⟨zs, H2, J, rz, lz, q2⟩ => ⟨J.kIn, ?_⟩) hpl) hdb)⟩
  rw [hks]
  exact run_gmake (us := []) (fun y => g [y] ws) (fun y => gV [y] zs) M F rm gd (fun s y KX => hb.to s [.ref y] ws KX rfl (rz.length.symm.trans lz)) (fun y => hb.rel (.cons rfl .nil) rz) hx J q2
end
end KG

set_option Elab.async false
set_option linter.all false
set_option maxRecDepth 100000
set_option maxHeartbeats 4000000
/-! KR: the end of a law over such promises; repr of data, str of an own object, == and != by an own __eq__. -/
namespace KG
open PySem PySem.Spec PyProof.Rows L2

/-! ### the end: the law's def is called where nothing is shown -/
theorem law_gd {P : Program} {w : World} {K : PySem.W.Frag} {mg mb : Str → Option Value} {CX : CXT} {k : Nat} {fa a : Addr} {fd : FuncData} {x : Str} {sp : Sp} {s1 : Shared} {vs : List Value} {ns : List Int}
    (kin : K.In s1.heap) (nsm : s1.heap.Ns mainGlobals mg) (nsb : s1.heap.Ns builtinsNs mb) (mbb : ∀ x : Str, x ≠ "__name__" → mb x = bootBuiltins x) (lim : s1.heap.NoLimit) (nog : s1.gens = #[])
    (atA : s1.heap.get? a = some { cls := .type "list", data := .seq vs.toArray }) (isn : IntsAre vs ns) (small : ns.length ≤ sizeLine) (rm : Room k callerA)
    (F : ∀ base : Heap, K.In base → base.Ns mainGlobals mg → Gd P w K mg base CX k fa fd [x] sp) (bt : ∀ (s : Shared) (u : Value), BindsTo s fd ⟨[u], []⟩ [(x, u)])
    (start_ : ∀ H : Hp, Only H → SqL K H a (ns.map V.int) → sp [.ref a] H (fun v _ => v = .bl true) fun _ _ _ => False)
    (quiet : ∀ H e s', CX [] H s1 (fun _ _ _ => False) e s' → False) :
    codeAny (model P w) callerA (.call (.ref fa) ⟨[.ref a], []⟩) (fun r s' => r = .ok (.ret (.bool true)) ∧ OldK s1.heap s'.heap ∧ s'.os = s1.os ∧ AllBare s'.gens) s1 := by
  have rv := vals_ints isn
  have vlen := isn.length
  have from_ : ∀ H : Hp, Only H → SqL K H a (ns.map V.int) → HOk P w H s1.heap → (∀ b, H b ≠ none → b = a) → (H a ≠ none → K.lookup a = none) →
      codeAny (model P w) callerA (.call (.ref fa) ⟨[.ref a], []⟩) (fun r s' => r = .ok (.ret (.bool true)) ∧ OldK s1.heap s'.heap ∧ s'.os = s1.os ∧ AllBare s'.gens) s1 := by
    intro H only sq hok onlyA notK
    have free_of : ∀ {b : Addr} {o : Obj}, (H b ≠ none → b = a → False) → H b = none := fun {b o} h => by
      by_cases z : H b = none
      · exact z
      · exact (h z (onlyA b z)).elim
    have dict_free : ∀ {b : Addr} {o : Obj} {es : Array DictEntry} {ep : Nat}, s1.heap.get? b = some o → o.data = .dict es ep → H b = none := fun {b o es ep} e d =>
      free_of (o := o) fun _ eb => by
        rw [eb, atA] at e
        cases e
        exact nomatch d
    have ns_hid : ∀ {b : Addr} {m : Str → Option Value}, s1.heap.Ns b m → (hidT s1.heap H).Ns b m :=
      fun {b m} ⟨o, es, ep, e, d, r⟩ => ⟨o, es, ep, hidT_get e (dict_free e d), d, r⟩
    have kin_hid : K.In (hidT s1.heap H) := fun b o e => hidT_get (kin b o e) (free_of (o := o) fun z eb => by
      rw [eb] at e z
      rw [notK z] at e
      cases e)
    have mod : Mod K mg (hidT s1.heap H) := ⟨kin_hid, ns_hid nsm, ⟨mb, ns_hid nsb, mbb⟩, lim.elim fun mc h => ⟨mc, ns_hid h.1, h.2⟩⟩
    have e0 : Env0 P w K mg (hidT s1.heap H) callerA [] s1 H := ⟨rfl, mod, fun b o e => of_hidT e, Nat.le_of_eq (hidT_size _ _), trivial, fun b hb => absurd (show b ∈ ([] : List Addr) from hb) List.not_mem_nil, hok, .of_eq nog⟩
    refine codeAny_mono ((F _ kin_hid (ns_hid nsm)).go callerA [] s1 H ⟨[.ref a], []⟩ [.ref a] [.ref a] _ _ rm rfl e0 (bt s1 (.ref a)) (.cons rfl .nil) (start_ H only sq)) fun r s' h => ?_
    match r, h with
    | .error e, h => exact (quiet H e s' h).elim
    | .ok (.ret u), h =>
      obtain ⟨v, H', os, bare, un, hok', r', q⟩ := h
      have q' : v = .bl true := q
      subst q'
      obtain rfl : u = Value.bool true := r'
      refine ⟨rfl, OldK.of_keep fun b o e => ?_, os, bare⟩
      cases z : H b with
      | none => exact un.keep b o e z (by intro y; cases y) (by simp)
      | some t =>
        rcases only b with y | ⟨ob, xs, y⟩
        · rw [z] at y
          cases y
        · have y2 := un.frzs b ob _ y
          obtain ⟨g1, _⟩ := hok b _ y
          obtain ⟨g2, _⟩ := hok' b _ y2
          rw [e] at g1
          cases g1
          exact g2
  cases hk : K.lookup a with
  | some o =>
    have e := kin a o hk
    rw [atA] at e
    cases e
    exact from_ (fun _ => none) (fun _ => .inl rfl) (.inr ⟨_, vs.toArray, _, hk, rfl, rfl, rfl, by rw [List.size_toArray, vlen]; exact small, by simpa using rv⟩) (fun b u z => by cases z) (fun b z => absurd rfl z) fun z => absurd rfl z
  | none =>
    have at_a : ∀ {b : Addr} {u : HO}, (if b = a then some (HO.frz { cls := .type "list", data := .seq vs.toArray } (.lst (ns.map V.int))) else none) = some u → b = a := fun {b u} z => by
      by_cases hb : b = a
      · exact hb
      · rw [if_neg hb] at z
        cases z
    refine from_ (fun b => if b = a then some (.frz { cls := .type "list", data := .seq vs.toArray } (.lst (ns.map V.int))) else none) (fun b => ?_) (.inl (.inr ⟨{ cls := .type "list", data := .seq vs.toArray }, if_pos rfl⟩)) (fun b u z => ?_) (fun b z => ?_) fun _ => hk
    · by_cases hb : b = a
      · exact .inr ⟨_, _, if_pos hb⟩
      · exact .inl (if_neg hb)
    · obtain rfl := at_a z
      have z' := (if_pos rfl).symm.trans z
      cases z'
      exact ⟨atA, by rw [List.length_map]; exact small, vs, _, rv, atA⟩
    · by_cases hb : b = a
      · exact hb
      · exact absurd (if_neg hb) z

/-- the law's walk, from its promise where nothing is shown -/
theorem walk_gd {l : PySem.W.OpenLaw} {n k : Nat} {q : Program} {loose : List Str} {XP : (Str → Option Value) → Heap → Prop} {YP : World → Heap → Prop} {d : DefRec} {K : Params → PySem.W.Frag} {CX : World → CXT} {sp : World → Sp} {x : Str}
    (most : l.most = some n) (n2 : n ≤ sizeLine) (nod : d.params.defaults = []) (rm : Room k callerA)
    (hY : ∀ (w : World) (h : Heap), YP w h → (K w.params).In h)
    (F : ∀ (w : World) (mg : Str → Option Value) (fa : Addr) (h : Heap), (K w.params).In h → h.Ns mainGlobals mg → mg d.name = some (.ref fa) →
      ∃ fd : FuncData, (∀ (s : Shared) (u : Value), BindsTo s fd ⟨[u], []⟩ [(x, u)]) ∧
        ∀ base : Heap, (K w.params).In base → base.Ns mainGlobals mg → Gd l.prog w (K w.params) mg base (CX w) k fa fd [x] (sp w))
    (start_ : ∀ (w : World) (H : Hp) (a : Addr) (ns : List Int), ns.length ≤ n → Only H → SqL (K w.params) H a (ns.map V.int) → sp w [.ref a] H (fun v _ => v = .bl true) fun _ _ _ => False)
    (quiet : ∀ (w : World) (H : Hp) (s : Shared) (e : Value) (s' : Shared), CX w [] H s (fun _ _ _ => False) e s' → False) :
    PySem.W.WalkO q loose XP YP l.row.toRowW d [] (fun f vs => PySem.call f vs) := by
  refine Att.attach_call most nod fun w s0 s1 mg mb fa o pm cd doc a vs ns G Y ho hd hcd hmg hobj hints hlen hg => ?_
  have kin := hY w _ Y
  obtain ⟨fd, hb, hF⟩ := F w mg fa _ kin G.T.g hmg
  exact law_gd kin G.T.g G.T.b G.T.builtins G.T.nolimit hg hobj hints (Nat.le_trans hlen n2) rm hF hb (fun H hO hS => start_ w H a ns hlen hO hS) fun H e s' => quiet w H s1 e s'

/-- .. where the promise hangs on the written part alone -/
theorem walk_gdK {l : PySem.W.OpenLaw} {n k : Nat} {q : Program} {loose : List Str} {XP : (Str → Option Value) → Heap → Prop} {YP : World → Heap → Prop} {d : DefRec} {K : Params → PySem.W.Frag} {CX : CXT} {sp : PySem.W.Frag → Sp} {x : Str}
    (most : l.most = some n) (n2 : n ≤ sizeLine) (nod : d.params.defaults = []) (rm : Room k callerA)
    (hY : ∀ (w : World) (h : Heap), YP w h → (K w.params).In h)
    (F : ∀ (w : World) (mg : Str → Option Value) (fa : Addr) (h : Heap), (K w.params).In h → h.Ns mainGlobals mg → mg d.name = some (.ref fa) →
      ∃ fd : FuncData, (∀ (s : Shared) (u : Value), BindsTo s fd ⟨[u], []⟩ [(x, u)]) ∧
        ∀ base : Heap, (K w.params).In base → base.Ns mainGlobals mg → Gd l.prog w (K w.params) mg base CX k fa fd [x] (sp (K w.params)))
    (start_ : ∀ (K : PySem.W.Frag) (H : Hp) (a : Addr) (ns : List Int), ns.length ≤ n → Only H → SqL K H a (ns.map V.int) → sp K [.ref a] H (fun v _ => v = .bl true) fun _ _ _ => False)
    (quiet : ∀ (H : Hp) (s : Shared) (e : Value) (s' : Shared), CX [] H s (fun _ _ _ => False) e s' → False) :
    PySem.W.WalkO q loose XP YP l.row.toRowW d [] (fun f vs => PySem.call f vs) :=
  walk_gd (K := K) (CX := fun _ => CX) (sp := fun w => sp (K w.params)) most n2 nod rm hY F (fun w H a ns h1 h2 h3 => start_ (K w.params) H a ns h1 h2 h3) fun _ H s e s' => quiet H s e s'

/-! ### repr of data -/
section
variable {X : Cx}
/-- repr(x), x data: none, bools, ints, texts, lists, tuples -/
def rRepr (K : PySem.W.Frag) : List V → Hp → VK → Prop := fun xs H Q => ∃ x d, xs = [x] ∧ Dp K H x d ∧ d.showable = true ∧ d.hasDict = false ∧ d.depth ≤ 40 ∧ d.shown.length ≤ sizeLine ∧ Q (.str d.shown) H
theorem call_repr {k : Nat} (rm : Room k X.A) (gd : X.A.guards = some []) : CallR X (.builtin "repr") (rRepr X.K) := by
  intro pins s σ H xs us Q I r h
  obtain ⟨x, d, rfl, hd, sh, nd, dp, sz, q⟩ := h
  obtain ⟨u, rfl, r1⟩ := vals1 r
  obtain ⟨as, rd⟩ := Dp.reads I d x u hd r1
  have room := rm.units
  have fin : ∀ (s' : Shared) (tk : Tok), Inv X pins σ H s' → EP X pins σ Q (.str d.shown tk) s' := fun s' tk J => ⟨.str d.shown, H, J, ⟨tk, rfl⟩, q⟩
  have intsz : ∀ i : Int, d = .int i → i.natAbs.log2 < 1920 := fun i e => by
    subst e
    simpa [PyData.showable] using sh
  cases hd with
  | non =>
    cases r1
    rw [PyData.shown_none] at q
    exact PySem.P.repr_of_none ⟨.str _, H, I.tok _, ⟨_, rfl⟩, q⟩
  | bl b =>
    cases r1
    rw [PyData.shown_bool] at q
    exact PySem.P.repr_of_bool ⟨.str _, H, I.tok _, ⟨_, rfl⟩, by cases b <;> exact q⟩
  | int i =>
    obtain ⟨t, rfl⟩ := r1
    rw [PyData.shown_int] at q
    exact PySem.P.repr_of_int (intsz i rfl) ⟨.str _, H, I.tok _, ⟨_, rfl⟩, q⟩
  | str z =>
    obtain ⟨t, rfl⟩ := r1
    rw [PyData.shown_str] at q sz
    exact PySem.P.repr_of_str ⟨.str _, H, I.tok _, ⟨_, rfl⟩, q⟩ sz
  | lst _ _ =>
    cases r1
    exact repr_of_reads' rd sh (fun z => by rw [nd] at z; cases z) gd (by omega) (fun _ _ z => z) (fun h' u tk keep => fin _ _ (I.kept (t' := tk) keep)) sz
  | tup _ _ =>
    cases r1
    exact repr_of_reads' rd sh (fun z => by rw [nd] at z; cases z) gd (by omega) (fun _ _ z => z) (fun h' u tk keep => fin _ _ (I.kept (t' := tk) keep)) sz
end

/-! ### str(o), o an own object with its own __str__ -/
section
variable {X : Cx} {CX : CXT} {k : Nat} {f C : Addr} {fd : FuncData} {ps : List Str} {sp : Sp} {E : XK}
theorem in1_gd {A : Around} (h : A.guards = some []) : A.in1.guards = some [] := h
def rStrO (C : Addr) (sp : Sp) (E : XK) : List V → Hp → VK → Prop := fun xs H Q => ∃ a dx fs, xs = [.ref a] ∧ H a = some (.ins C dx fs) ∧ sp [.ref a] H (fun v H' => ∃ z, v = .str z ∧ Q (.str z) H') E
theorem call_strO (F : Gd X.prog X.w X.K X.mg X.base CX k f fd ps sp) (rm : Room (k + 2) X.A) (gd : X.A.guards = some []) (hs : PySem.W.findIn X.K (.ref C) "__str__" = some (some (.ref f))) (hf : PySem.W.isFn X.K (.ref f) = true)
    (hb : Binds X.K fd ps []) (hx : Passes CX X E) : CallR X (.type "str") (rStrO C sp E) := by
  intro pins s σ H xs us Q I r h
  obtain ⟨a, dx, fs, rfl, ea, q⟩ := h
  obtain ⟨u, rfl, r1⟩ := vals1 r
  obtain rfl : u = Value.ref a := r1
  obtain ⟨mA, J, _⟩ := ins_get I.hok ea
  obtain ⟨od, J, _⟩ := J.look
  have room := rm.units
  refine PySem.W.kso_call (by show X.A.units + 1 + 1 < cLine; omega) I.kIn J hs hf ?_
  have r2 : Vals [V.ref a] [Value.ref a] := .cons rfl .nil
  have bt := bind_pos (dvs := []) (vs := [V.ref a]) F hb .nil I.kIn r2 q
  refine wpAny_mono (run_at (us := [.ref a]) F rm.in1.in1 (in1_gd (in1_gd gd)) I.env0.in1.in1 (fun e s' hq => hx pins σ H s e s' I hq) I bt r2 q) (fun v s' hv => ?_) fun _ _ z => z
  obtain ⟨z, H', J', rz, y, ey, q'⟩ := hv
  subst ey
  obtain ⟨t, rfl⟩ := rz
  exact ⟨.str y, H', J', ⟨t, rfl⟩, q'⟩

/-! ### == and != by an own __eq__ -/
theorem ne_bound {M : Model} {A : Around} {W : Value → Shared → Prop} {s : Shared} {K : PySem.W.Frag} {x C : Addr} {ox : Obj} {od : Option Obj} {args : List Value} {Q : Option Value → Shared → Prop} (kin : K.In s.heap) (J : PySem.W.InstAt s.heap x ox C od)
    (hs : PySem.W.findIn K (.ref C) "__ne__" = some (some (.builtin "object.__ne__"))) (h : wpAny M A (call (.builtin "object.__ne__") (.ref x :: args)) (fun v => Q (some v)) W s) :
    wpAny M A (callSpecialIfBound? (.ref x) "__ne__" args) Q W s := by
  simp only [callSpecialIfBound?, bindSpecialIfBound?]
  refine wpAny_holding (wpAny_bind (wpAny_bind (wpAny_bind (J.type.here ((PySem.W.looks_findIn kin hs).here ?_)))))
  refine wpAny_bind (wpAny_askSetting (wpAny_ite ?_))
  have last : wpAny M A (call (.builtin "object.__ne__") ([.ref x] ++ args) >>= fun v => pure (some v)) Q W s :=
    wpAny_bind (wpAny_mono h (fun v s' z => wpAny_pure z) fun _ _ z => z)
  split
  · exact wpAny_bind (wpAny_of_eq (F.cmp_object.ne.bind _) (wpAny_pure (by exact last)))
  · exact wpAny_tryCatch (wpAny_bind (wpAny_of_eq (F.cmp_object.ne.bind _) (wpAny_pure (by exact last))))
theorem ne_own {prog : Program} {w : World} {A : Around} {W : Value → Shared → Prop} {s : Shared} {K : PySem.W.Frag} {x C f : Addr} {ox : Obj} {od : Option Obj} {b tb : Value} {Q : Value → Shared → Prop} (hu : A.units + 1 < cLine) (kin : K.In s.heap) (J : PySem.W.InstAt s.heap x ox C od)
    (hb : PySem.W.Looks (model prog w) s.heap (typeOf b) tb) (hn : PySem.W.notFirst K C tb = true) (hm : PySem.W.mroIn K C (.type "object") = some true)
    (hs : PySem.W.findIn K (.ref C) "__ne__" = some (some (.builtin "object.__ne__"))) (he : PySem.W.findIn K (.ref C) "__eq__" = some (some (.ref f))) (hf : PySem.W.isFn K (.ref f) = true)
    (h : wpAny (model prog w) A.in1 (call (.ref f) [.ref x, b]) (fun v s' => ∃ c, v = .bool c ∧ Q (.bool (!c)) s') W s) : wpAny (model prog w) A (richCompare .NotEq (.ref x) b) Q W s := by
  have one : wpAny (model prog w) A (tryCompare (.ref x) "__ne__" b) (fun r s' => ∃ v, r = some v ∧ Q v s') W s := by
    unfold tryCompare
    refine wpAny_bind (ne_bound kin J hs (wpAny_call (codeAny_call_builtin F.cmp_object.ne.plain F.cmpEntry_ne
      (PySem.W.check_slot F.cmpKind_ne F.cmpSplit_ne (J.type.andThen (PySem.W.looks_mroIn kin hm)) (F.cmpArgs_ne _ _) ?_))))
    show wpAny _ _ (Builtin.«object.__ne__» ⟨[.ref x, b], []⟩) _ _ s
    unfold Builtin.«object.__ne__»
    refine wpAny_bind (m := slotArgs "__ne__" 1 _) (wpAny_pure ?_)
    refine wpAny_bind (wpAny_cRoomFor (by show A.units + 1 < cLine; omega) ?_)
    refine wpAny_bind (m := callSpecialIfBound? (.ref x) (Str.ofString "__eq__") [b]) (PySem.W.ifBound_K kin J he hf (wpAny_mono h (fun v s' hv => ?_) fun _ _ z => z))
    obtain ⟨c, rfl, q⟩ := hv
    refine wpAny_bind (wpAny_truthy_bool ?_)
    exact wpAny_pure (wpAny_pure ⟨_, rfl, q⟩)
  unfold richCompare
  simp only [oneThing_ref]
  refine wpAny_holding (wpAny_bind (wpAny_cRoomFor (by omega) ?_))
  refine wpAny_bind (J.type.here (wpAny_bind (hb.here ?_)))
  split
  · rename_i q
    have e : PySem.W.subIn K tb (.ref C) = some false := by
      rcases Bool.or_eq_true_iff.mp hn with e | e
      · rw [beq_iff_eq.mp e] at q
        simp at q
      · exact beq_iff_eq.mp e
    refine wpAny_bind ((PySem.W.looks_subIn kin e).here ?_)
    simp only [Bool.false_eq_true, if_false]
    refine wpAny_bind (m := tryCompare (.ref x) _ b) (wpAny_mono one (fun r s' z => ?_) fun _ _ e => e)
    obtain ⟨v, rfl, hq⟩ := z
    exact wpAny_pure hq
  · refine wpAny_bind (wpAny_pure ?_)
    simp only [Bool.false_eq_true, if_false]
    refine wpAny_bind (m := tryCompare (.ref x) _ b) (wpAny_mono one (fun r s' z => ?_) fun _ _ e => e)
    obtain ⟨v, rfl, hq⟩ := z
    exact wpAny_pure hq

/-- o == y, o != y: the own __eq__ answers (y: the same class, or a thing whose type is no class below it) -/
def rEqO (K : PySem.W.Frag) (C : Addr) (neg : Bool) (sp : Sp) (E : XK) : R2 := fun x y H Q => ∃ a dx fs t, x = .ref a ∧ H a = some (.ins C dx fs) ∧ TyX K H y t ∧ PySem.W.notFirst K C t = true ∧
  sp [.ref a, y] H (fun v H' => ∃ c, v = .bl c ∧ Q (.bl (if neg then !c else c)) H') E
theorem op_eqO (F : Gd X.prog X.w X.K X.mg X.base CX k f fd ps sp) (rm : Room k X.A) (gd : X.A.guards = some []) (hs : PySem.W.findIn X.K (.ref C) "__eq__" = some (some (.ref f))) (hf : PySem.W.isFn X.K (.ref f) = true)
    (hb : Binds X.K fd ps []) (hx : Passes CX X E) : OpR X (compareOp .Eq) (rEqO X.K C false sp E) := by
  intro pins s σ H x y v u Q I rx ry h
  obtain ⟨a, dx, fs, t, rfl, ea, ty, nf, q⟩ := h
  obtain rfl : v = Value.ref a := rx
  obtain ⟨mA, J, _⟩ := ins_get I.hok ea
  obtain ⟨od, J, _⟩ := J.look
  obtain ⟨m, fr⟩ := I.fr
  obtain ⟨_, Z, pz, _⟩ := kit_of I ry ty
  have r2 : Vals [V.ref a, y] [Value.ref a, u] := .cons rfl (.cons ry .nil)
  have bt := bind_pos (dvs := []) (vs := [V.ref a, y]) F hb .nil I.kIn r2 q
  refine PySem.W.cmp_K (op := .Eq) rm.units0 fr I.ok.mod.kin J (Z.ty _ _ I.kIn pz) nf hs hf ?_
  refine wpAny_mono (run_g (us := [.ref a, u]) F rm gd hx I bt r2 q) (fun v s' hv => ?_) fun _ _ z => z
  obtain ⟨z, H', J', rz, c, ez, q'⟩ := hv
  subst ez
  obtain rfl : v = Value.bool c := rz
  exact ⟨.bl c, H', J', rfl, q'⟩
theorem op_neO (F : Gd X.prog X.w X.K X.mg X.base CX k f fd ps sp) (rm : Room (k + 1) X.A) (gd : X.A.guards = some []) (hs : PySem.W.findIn X.K (.ref C) "__eq__" = some (some (.ref f))) (hf : PySem.W.isFn X.K (.ref f) = true)
    (hn : PySem.W.findIn X.K (.ref C) "__ne__" = some (some (.builtin "object.__ne__"))) (hm : PySem.W.mroIn X.K C (.type "object") = some true)
    (hb : Binds X.K fd ps []) (hx : Passes CX X E) : OpR X (compareOp .NotEq) (rEqO X.K C true sp E) := by
  intro pins s σ H x y v u Q I rx ry h
  obtain ⟨a, dx, fs, t, rfl, ea, ty, nf, q⟩ := h
  obtain rfl : v = Value.ref a := rx
  obtain ⟨mA, J, _⟩ := ins_get I.hok ea
  obtain ⟨od, J, _⟩ := J.look
  obtain ⟨_, Z, pz, _⟩ := kit_of I ry ty
  have r2 : Vals [V.ref a, y] [Value.ref a, u] := .cons rfl (.cons ry .nil)
  have bt := bind_pos (dvs := []) (vs := [V.ref a, y]) F hb .nil I.kIn r2 q
  have room := rm.units
  refine ne_own (by omega) I.kIn J (Z.ty _ _ I.kIn pz) nf hm hn hs hf ?_
  refine wpAny_mono (run_at (us := [.ref a, u]) F rm.in1 (in1_gd gd) I.env0.in1 (fun e s' hq => hx pins σ H s e s' I hq) I bt r2 q) (fun v s' hv => ?_) fun _ _ z => z
  obtain ⟨z, H', J', rz, c, ez, q'⟩ := hv
  subst ez
  obtain rfl : v = Value.bool c := rz
  exact ⟨c, rfl, .bl (!c), H', J', rfl, q'⟩
end
end KG

set_option Elab.async false
set_option linter.all false
set_option maxRecDepth 100000
set_option maxHeartbeats 4000000
/-! KS: defs, methods and classes by name; the readings' steps, one lemma each, for walk_at "go". -/
namespace KG
open PySem PySem.Spec PyProof.Rows L2

/-! ### defs by name -/
/-- how the arguments of a def of the text bind, by place -/
def BindOk (x qual : Str) (st : Stmt) (ps : List Str) : Prop := ∀ (kV doc pm : Value) (an : Option Addr) (cdv ct : Value) (us : List Value), us.length = ps.length →
  bindArgs (PySem.W.fnOf x qual (defArgs st) (defBody st) (defScope st) .none kV doc pm an cdv ct) ⟨us, []⟩ = pure (ps.zip us)
/-- .. n by place, then by keywords, is: the keywords' places -/
def BindOkK (x qual : Str) (st : Stmt) (ps : List Str) (n : Nat) (ks : List Str) (is : List Nat) : Prop := ∀ (kV doc pm : Value) (an : Option Addr) (cdv ct : Value) (us ws : List Value), us.length = n → ws.length = ks.length →
  bindArgs (PySem.W.fnOf x qual (defArgs st) (defBody st) (defScope st) .none kV doc pm an cdv ct) ⟨us, ks.zip ws⟩ = pure (ps.zip (us ++ sel is ws))
/-- the def st stands under the name x -/
structure DefAt (K : PySem.W.Frag) (mg : Str → Option Value) (x : Str) (st : Stmt) (ps : List Str) : Prop where
  ex : ∃ f fd, mg x = some (.ref f) ∧ Fun K x x st f fd ∧ Binds K fd ps []
theorem defAt_of {K : PySem.W.Frag} {h : Heap} {mg : Str → Option Value} (X : K.In h) (G : h.Ns mainGlobals mg) {x : Str} {st : Stmt} {ps : List Str} {f : Addr} {oc kV doc pm cdv ct : Value} {od an : Option Addr} {sl : Array (Option Value)}
    (a : PySem.W.nsIn K mainGlobals x = some (some (.ref f))) (l : K.lookup f = some ⟨oc, od, .func (PySem.W.fnOf x x (defArgs st) (defBody st) (defScope st) .none kV doc pm an cdv ct), sl⟩)
    (c : PySem.W.codeIn K cdv x = true) (k : PySem.W.keepIn K (.ref f) = true) (b : BindOk x x st ps) : DefAt K mg x st ps :=
  have F := fun_mk (st := st) l c k
  ⟨⟨f, _, PySem.W.mg_of X G a, F, F.binds b⟩⟩
/-- the method st of the class at C -/
structure MetAt (K : PySem.W.Frag) (C : Addr) (m qual : Str) (st : Stmt) (ps : List Str) (f : Addr) : Prop where
  ex : ∃ fd, Meth K C m f ∧ Fun K m qual st f fd ∧ Binds K fd ps []
theorem metAt_of {K : PySem.W.Frag} {C : Addr} {m qual : Str} {st : Stmt} {ps : List Str} {f : Addr} {oc kV doc pm cdv ct : Value} {od an : Option Addr} {sl : Array (Option Value)}
    (a : PySem.W.findIn K (.ref C) m = some (some (.ref f))) (i : PySem.W.isFn K (.ref f) = true) (l : K.lookup f = some ⟨oc, od, .func (PySem.W.fnOf m qual (defArgs st) (defBody st) (defScope st) .none kV doc pm an cdv ct), sl⟩)
    (c : PySem.W.codeIn K cdv qual = true) (k : PySem.W.keepIn K (.ref f) = true) (b : BindOk m qual st ps) : MetAt K C m qual st ps f :=
  have F := fun_mk (st := st) l c k
  ⟨⟨_, ⟨a, i, k⟩, F, F.binds b⟩⟩
/-- the def st, promised sp, nothing raised -/
def Cal (P : Program) (w : World) (K : PySem.W.Frag) (mg : Str → Option Value) (base : Heap) (j : Nat) (x : Str) (sp : Sp) : Prop :=
  ∃ f fd ps, mg x = some (.ref f) ∧ PySem.W.keepIn K (.ref f) = true ∧ Binds K fd ps [] ∧ Gd P w K mg base CX0 j f fd ps sp
def Met (P : Program) (w : World) (K : PySem.W.Frag) (mg : Str → Option Value) (base : Heap) (j : Nat) (C : Addr) (m : Str) (f : Addr) (sp : Sp) : Prop :=
  ∃ fd ps, Meth K C m f ∧ Binds K fd ps [] ∧ Gd P w K mg base CX0 j f fd ps sp
def MetK (P : Program) (w : World) (K : PySem.W.Frag) (mg : Str → Option Value) (base : Heap) (j : Nat) (C : Addr) (m : Str) (f : Addr) (ks : List Str) (is : List Nat) (sp : Sp) : Prop :=
  ∃ fd ps, Meth K C m f ∧ KBn K fd ps 1 ks (fun us ws => us ++ sel is ws) (fun vs zs => vs ++ sel is zs) ∧ Gd P w K mg base CX0 j f fd ps sp
section
variable {P : Program} {w : World} {K : PySem.W.Frag} {mg : Str → Option Value} {base : Heap} {k : Nat} {x m qual : Str} {st : Stmt} {ps N : List Str} {sp : Sp} {C f : Addr}
/-- a def by its body -/
theorem DefAt.cal (D : DefAt K mg x st ps) (sc : FnScope N ps (defScope st)) (len : ∀ vs H Q E, sp vs H Q E → vs.length = ps.length)
    (inner : ∀ (f : Addr) (cdv : Value) (A : Around) (outer : List Env) (s : Shared) (H : Hp) (vs : List V) (Q : VK) (E : XK),
      Room k (A.deeper (envOfC x (defScope st) s.heap.objs.size f cdv)) → (A.deeper (envOfC x (defScope st) s.heap.objs.size f cdv)).guards = some [] → sp vs H Q E →
      ∃ t, PSs (cxOf CX0 P w K mg base N x (defScope st) f cdv A outer s H E).nox (defBody st) t ∧ t { nx := fun _ H' => Q .non H', rt := Q } (start N vs) H) :
    Cal P w K mg base (k + 1) x sp := by
  obtain ⟨f, fd, a, F, b⟩ := D.ex
  exact ⟨f, fd, ps, a, F.kp, b, gd0 F sc len (inner f)⟩
theorem MetAt.gd (D : MetAt K C m qual st ps f) (sc : FnScope N ps (defScope st)) (len : ∀ vs H Q E, sp vs H Q E → vs.length = ps.length)
    (inner : ∀ (cdv : Value) (A : Around) (outer : List Env) (s : Shared) (H : Hp) (vs : List V) (Q : VK) (E : XK),
      Room k (A.deeper (envOfC qual (defScope st) s.heap.objs.size f cdv)) → (A.deeper (envOfC qual (defScope st) s.heap.objs.size f cdv)).guards = some [] → sp vs H Q E →
      ∃ t, PSs (cxOf CX0 P w K mg base N qual (defScope st) f cdv A outer s H E).nox (defBody st) t ∧ t { nx := fun _ H' => Q .non H', rt := Q } (start N vs) H) :
    ∃ fd, Meth K C m f ∧ Fun K m qual st f fd ∧ Binds K fd ps [] ∧ Gd P w K mg base CX0 (k + 1) f fd ps sp := by
  obtain ⟨fd, a, F, b⟩ := D.ex
  exact ⟨fd, a, F, b, gd0 F sc len inner⟩
end
section
variable {X : Cx} {j k : Nat} {x m qual : Str} {sp : Sp} {C f : Addr} {p pos apos : Pos} {e o : Expr} {es : List Expr} {kws : List Keyword} {ta te : TE} {t tk : TA} {ks : List Str} {is : List Nat} {pl : Sem Bool}
theorem pc (c : Cal X.prog X.w X.K X.mg X.base j x sp) (rm : Room k X.A) (hk : j ≤ k) (gd : X.A.guards = some []) (gl : Gl X x) (ha : PA X (e :: es) t)
    (hdb : (x == ("__debug__" : Str)) = false := by decide) (he : starEach (e :: es) X.env = (false, eval e X.env) :: starEach es X.env := by rfl) (hpl : (backTo pos (starEach es X.env)).any (·.1) = false := by rfl) :
    PE X (.Call (.Name x p) (e :: es) [] pos) (tCall sp [] E0 t) := by
  obtain ⟨f, fd, ps, a, kp, b, F⟩ := c
  exact pe_gcall F (rm.mono hk) gd gl a kp b .nil pass0 ha hdb he hpl
theorem pc0 (c : Cal X.prog X.w X.K X.mg X.base j x sp) (rm : Room k X.A) (hk : j ≤ k) (gd : X.A.guards = some []) (gl : Gl X x)
    (hdb : (x == ("__debug__" : Str)) = false := by decide) : PE X (.Call (.Name x p) [] [] pos) (tCall sp [] E0 tNil) := by
  obtain ⟨f, fd, ps, a, kp, b, F⟩ := c
  exact pe_gcall0 F (rm.mono hk) gd gl a kp b .nil pass0 hdb
theorem pm (c : Met X.prog X.w X.K X.mg X.base j C m f sp) (cl : Cls X.K C) (rm : Room k X.A) (hk : j ≤ k) (gd : X.A.guards = some []) (he : PE X o ta) (ha : PA X (e :: es) t)
    (hst : starEach (e :: es) X.env = (false, eval e X.env) :: starEach es X.env := by rfl) (hpl : (backTo pos (starEach es X.env)).any (·.1) = false := by rfl)
    (ht : eval (.Call (.Attribute o m apos) (e :: es) [] pos) X.env = (do
      let w ← eval o X.env
      standAt apos.atName
      let (g, a) ← holding [w] (getMethod w m pl)
      callWith pos g a (backTo pos (starEach (e :: es) X.env)) (backToKw pos (keywordEach [] X.env))) := by rfl) :
    PE X (.Call (.Attribute o m apos) (e :: es) [] pos) (tMeth C m sp [] E0 ta t) := by
  obtain ⟨fd, ps, hm, b, F⟩ := c
  exact pe_gmeth he cl hm F (rm.mono hk) gd b .nil pass0 ha hst hpl ht
theorem pm0 (c : Met X.prog X.w X.K X.mg X.base j C m f sp) (cl : Cls X.K C) (rm : Room k X.A) (hk : j ≤ k) (gd : X.A.guards = some []) (he : PE X o ta)
    (ht : eval (.Call (.Attribute o m apos) [] [] pos) X.env = (do
      let w ← eval o X.env
      standAt apos.atName
      let (g, a) ← holding [w] (getMethod w m pl)
      callWith pos g a (backTo pos (starEach [] X.env)) (backToKw pos (keywordEach [] X.env))) := by rfl) :
    PE X (.Call (.Attribute o m apos) [] [] pos) (tMeth C m sp [] E0 ta tNil) := by
  obtain ⟨fd, ps, hm, b, F⟩ := c
  exact pe_gmeth0 he cl hm F (rm.mono hk) gd b .nil pass0 ht
theorem pmK (c : MetK X.prog X.w X.K X.mg X.base j C m f ks is sp) (cl : Cls X.K C) (rm : Room k X.A) (hk : j ≤ k) (gd : X.A.guards = some []) (he : PE X o ta) (hkw : PK X kws tk)
    (hall : (backToKw pos (keywordEach kws X.env)).all (·.1.isSome) = true := by rfl) (hks : (backToKw pos (keywordEach kws X.env)).filterMap (·.1) = ks := by rfl)
    (hpl : ((backTo pos (starEach [] X.env)).any (·.1) || (backToKw pos (keywordEach kws X.env)).any (·.1.isNone)) = false := by rfl)
    (ht : eval (.Call (.Attribute o m apos) [] kws pos) X.env = (do
      let w ← eval o X.env
      standAt apos.atName
      let (g, a) ← holding [w] (getMethod w m pl)
      callWith pos g a (backTo pos (starEach [] X.env)) (backToKw pos (keywordEach kws X.env))) := by rfl) :
    PE X (.Call (.Attribute o m apos) [] kws pos) (tMethK C m ks.length sp (fun vs zs => vs ++ sel is zs) E0 ta tk) := by
  obtain ⟨fd, ps, hm, b, F⟩ := c
  exact pe_gmethK he cl hm F (rm.mono hk) gd b pass0 hkw hall hks hpl ht
end

/-! ### ways that meet behind a statement -/
def tMid (t u : TS) : TS := fun D σ H => ∃ M : L2.St → Hp → Prop, t { D with nx := M } σ H ∧ ∀ σ' H', M σ' H' → u D σ' H'
theorem pss_mid {X : Cx} {st : Stmt} {rest : List Stmt} {t u : TS} (h1 : PS X st t) (h2 : PSs X rest u) : PSs X (st :: rest) (tMid t u) := by
  refine ⟨fun pins s σ H D I h => ?_⟩
  obtain ⟨M, a, b⟩ := h
  refine wpAny_execs_cons (thn (h1.run pins s σ H { D with nx := M } I a) fun f s1 q => ?_)
  match f, q with
  | .next, ⟨σ', H', J, q⟩ => exact h2.run pins s1 σ' H' D J (b σ' H' q)
  | .ret v, q => exact q
  | .brk, q => exact q
  | .cont, q => exact q

/-! ### steps -/
/-- what a field's read, a field's store asks -/
def Fld (K : PySem.W.Frag) (f : Str) (x : V) (H : Hp) (Q : VK) : Prop := ∃ a C dx fs v, x = .ref a ∧ H a = some (.ins C dx fs) ∧ Cls K C ∧ NoAttr K C f ∧ fs.lookup f = some v ∧ Q v H
theorem fld {K : PySem.W.Frag} {f : Str} {a C dx : Addr} {fs : List (Str × V)} {v : V} {H : Hp} {Q : VK} (h : H a = some (.ins C dx fs)) (c : Cls K C) (n : NoAttr K C f) (l : fs.lookup f = some v) (q : Q v H) : Fld K f (.ref a) H Q := ⟨a, C, dx, fs, v, rfl, h, c, n, l, q⟩
def SFld (K : PySem.W.Frag) (f : Str) (y x : V) (H : Hp) (QH : Hp → Prop) : Prop := ∃ a C dx fs, x = .ref a ∧ H a = some (.ins C dx fs) ∧ Cls K C ∧ NoAttr K C f ∧ fs.length < 1000 ∧ QH (upd H a (.ins C dx (putF f y fs)))
/-- .. the heap behind it a letter -/
theorem sfld {K : PySem.W.Frag} {f : Str} {a C dx : Addr} {fs gs : List (Str × V)} {y : V} {H : Hp} {QH : Hp → Prop} (h : H a = some (.ins C dx fs)) (c : Cls K C) (n : NoAttr K C f) (l : fs.length < 1000) (e : putF f y fs = gs)
    (q : ∀ H' : Hp, H' a = some (.ins C dx gs) → (∀ b, b ≠ a → H' b = H b) → QH H') : SFld K f y (.ref a) H QH := ⟨a, C, dx, fs, rfl, h, c, n, l, q _ (by rw [← e]; exact upd_same) fun b nb => upd_ne nb⟩
/-- what the making of an instance asks -/
def Make (C : Addr) (sp : Sp) (args : V → List V) (E : XK) (H : Hp) (Q : VK) : Prop := ∀ x dx, H x = none → H dx = none → dx ≠ x → sp (args (.ref x)) (upd (upd H dx (.own x)) x (.ins C dx [])) (fun v H3 => v = .non ∧ Q (.ref x) H3) E
theorem make {C : Addr} {sp : Sp} {args : V → List V} {E : XK} {H : Hp} {Q : VK} (q : ∀ (x dx : Addr) (H' : Hp), H x = none → H' x = some (.ins C dx []) → Same H H' → sp (args (.ref x)) H' (fun v H3 => v = .non ∧ Q (.ref x) H3) E) : Make C sp args E H Q :=
  fun x dx nx ndx _ => q x dx _ nx upd_same fun b o e => by
    rw [upd_ne (ne_of_none e nx), upd_ne (ne_of_none e ndx)]
    exact e
/-- a dict's display, store and read -/
def DAll (p : Addr) (ps : List (V × V)) (Q : VK) (H : Hp) : Prop := H p = some (.dK []) ∧ ∃ kvs : List (Key × V), ps = kvs.map (fun kv => (kV kv.1, kv.2)) ∧ kvs.length ≤ 15 ∧ Q (.ref p) (upd H p (.dK (mergeK [] kvs)))
theorem dall {p : Addr} {ps : List (V × V)} {Q : VK} {H : Hp} {ks : List (Key × V)} (kvs : List (Key × V)) (h : H p = some (.dK [])) (e : ps = kvs.map (fun kv => (kV kv.1, kv.2))) (l : kvs.length ≤ 15) (m : mergeK [] kvs = ks)
    (q : ∀ H' : Hp, H' p = some (.dK ks) → (∀ b, b ≠ p → H' b = H b) → Q (.ref p) H') : DAll p ps Q H := ⟨h, kvs, e, l, q _ (by rw [← m]; exact upd_same) fun b nb => upd_ne nb⟩
def DPutQ (v x y : V) (H : Hp) (QH : Hp → Prop) : Prop := ∃ a H4, x = .ref a ∧ DPut H a y v H4 ∧ QH H4
theorem dput {v : V} {p : Addr} {H : Hp} {QH : Hp → Prop} {kvs ks : List (Key × V)} (k : Key) (h : H p = some (.dK kvs)) (l : kvs.length < sizeLine) (m : putK kvs k v = ks)
    (q : ∀ H' : Hp, H' p = some (.dK ks) → (∀ b, b ≠ p → H' b = H b) → QH H') : DPutQ v (.ref p) (kV k) H QH := ⟨p, _, rfl, DPut.k h l, q _ (by rw [← m]; exact upd_same) fun b nb => upd_ne nb⟩
def DGetQ (x y : V) (H : Hp) (Q : VK) : Prop := ∃ a v, x = .ref a ∧ DGet H a y (some v) ∧ Q v H
theorem dget {v : V} {p : Addr} {H : Hp} {Q : VK} {kvs : List (Key × V)} (k : Key) (h : H p = some (.dK kvs)) (e : valV kvs k = some v) (q : Q v H) : DGetQ (.ref p) (kV k) H Q := ⟨p, v, rfl, by rw [← e]; exact DGet.k h, q⟩
/-- what a for asks -/
def Loop (J : It) (g : TG) (tb : TS) (D : Ends) (σ : L2.St) (H : Hp) : Prop := ∃ W : Nat → Nat → L2.St → Hp → Prop, (∃ m, W 0 m σ H) ∧ ∀ i m σ H, W i m σ H →
  (J.stop i H ∧ D.nx σ H) ∨ (J.go i H ∧ ∃ N : L2.St → Hp → Prop, (∀ σ' H', N σ' H' → ∃ m', m' < m ∧ W (i + 1) m' σ' H') ∧ ∀ x H', J.yld i H x H' → g x σ H' fun σ2 H2 => tb { D with nx := N, ct := N, bk := D.nx } σ2 H2)
def OverT (K : PySem.W.Frag) (x : V) (H : Hp) (R : It → Hp → Prop) : Prop := ∃ a, x = .ref a ∧ (∃ xs, SqT K H a xs) ∧ R (Itt K a) H
theorem over_t {K : PySem.W.Frag} {a : Addr} {xs : List V} {H : Hp} {R : It → Hp → Prop} (h : SqT K H a xs) (q : R (Itt K a) H) : OverT K (.ref a) H R := ⟨a, rfl, ⟨xs, h⟩, q⟩
def OverL (K : PySem.W.Frag) (x : V) (H : Hp) (R : It → Hp → Prop) : Prop := ∃ a, x = .ref a ∧ (∃ xs, SqL K H a xs) ∧ R (Itl K a) H
theorem over_l {K : PySem.W.Frag} {a : Addr} {xs : List V} {H : Hp} {R : It → Hp → Prop} (h : SqL K H a xs) (q : R (Itl K a) H) : OverL K (.ref a) H R := ⟨a, rfl, ⟨xs, h⟩, q⟩
def OverR (vs : List V) (H : Hp) (R : It → Hp → Prop) : Prop := ∃ j : Int, vs = [.int j] ∧ -(2 ^ 62) ≤ j ∧ j < 2 ^ 62 ∧ R (Itr 0 j.toNat) H
theorem over_r {j : Int} {H : Hp} {R : It → Hp → Prop} (h1 : -(2 ^ 62) ≤ j) (h2 : j < 2 ^ 62) (q : R (Itr 0 j.toNat) H) : OverR [.int j] H R := ⟨j, rfl, h1, h2, q⟩
/-- what a method's call asks of the object -/
def Mth (C : Addr) (m : Str) (x : V) (H : Hp) (B : Prop) : Prop := ∃ a dx fs, x = .ref a ∧ H a = some (.ins C dx fs) ∧ fs.lookup m = none ∧ B
theorem mth {C a dx : Addr} {m : Str} {fs : List (Str × V)} {H : Hp} {B : Prop} (h : H a = some (.ins C dx fs)) (l : fs.lookup m = none) (q : B) : Mth C m (.ref a) H B := ⟨a, dx, fs, rfl, h, l, q⟩
/-- a tuple of the written part -/
def KTup (K : PySem.W.Frag) (a : Addr) (xs : List V) : Prop := ∃ (o : Obj) (its : Array Value) (n : Nat), K.lookup a = some o ∧ o.cls = .type "tuple" ∧ o.data = .seq its n ∧ its.size ≤ sizeLine ∧ Vals xs its.toList
theorem KTup.t {K : PySem.W.Frag} {a : Addr} {xs : List V} (h : KTup K a xs) (H : Hp) : SqT K H a xs := .inr h
/-- what a display asks: a new object -/
def New (o : List V → HO) (Q : VK) (xs : List V) (H : Hp) : Prop := xs.length ≤ sizeLine ∧ ∀ p, H p = none → Q (.ref p) (upd H p (o xs))
/-- .. the heap behind it a letter -/
theorem new {o : List V → HO} {Q : VK} {xs : List V} {H : Hp} (h : xs.length ≤ sizeLine) (q : ∀ (p : Addr) (H' : Hp), H p = none → H' p = some (o xs) → Same H H' → Q (.ref p) H') : New o Q xs H :=
  ⟨h, fun p np => q p _ np upd_same fun b u e => by rw [upd_ne (ne_of_none e np)]; exact e⟩
section
variable {σ : L2.St} {H : Hp} {Q : VK} {v : V} {ta tb te : TE} {t u : TS} {D : Ends} {i j : Int} {tc : TT} {QB : Bool → Hp → Prop} {QA : List V → Hp → Prop} {tr : TA} {r : R2}
theorem w_var {n : Nat} (h : σ[n]? = some (some v)) (q : Q v H) : tVar n σ H Q := ⟨v, h, q⟩
theorem w_c (q : Q v H) : tC v σ H Q := q
theorem w_op (q : ta σ H fun x H1 => tb σ H1 fun y H2 => r x y H2 Q) : tOp r ta tb σ H Q := q
theorem w_un {r : V → Hp → VK → Prop} (q : ta σ H fun x H1 => r x H1 Q) : tUn r ta σ H Q := q
theorem w_add (q : Q (.int (i + j)) H) : rI0 (fun i j => .int (i + j)) (.int i) (.int j) H Q := ⟨i, j, rfl, rfl, q⟩
theorem w_sub (q : Q (.int (i - j)) H) : rI0 (fun i j => .int (i - j)) (.int i) (.int j) H Q := ⟨i, j, rfl, rfl, q⟩
theorem w_mul (c : CMul i j) (q : Q (.int (i * j)) H) : rI CMul (fun i j => .int (i * j)) (.int i) (.int j) H Q := ⟨i, j, rfl, rfl, c, q⟩
theorem w_mod (c : 0 < j) (q : Q (.int (i % j)) H) : rI (fun _ j => 0 < j) (fun i j => .int (i % j)) (.int i) (.int j) H Q := ⟨i, j, rfl, rfl, c, q⟩
theorem w_fdiv (c : CDiv i j) (q : Q (.int (i / j)) H) : rI CDiv (fun i j => .int (i / j)) (.int i) (.int j) H Q := ⟨i, j, rfl, rfl, c, q⟩
theorem w_pow (c : CPow i j) (q : Q (.int (i ^ j.toNat)) H) : rI CPow (fun i j => .int (i ^ j.toNat)) (.int i) (.int j) H Q := ⟨i, j, rfl, rfl, c, q⟩
theorem w_and (q : Q (.int (Builtin.bitAnd i j)) H) : rI0 (fun i j => .int (Builtin.bitAnd i j)) (.int i) (.int j) H Q := ⟨i, j, rfl, rfl, q⟩
theorem w_or (q : Q (.int (Builtin.bitOr i j)) H) : rI0 (fun i j => .int (Builtin.bitOr i j)) (.int i) (.int j) H Q := ⟨i, j, rfl, rfl, q⟩
theorem w_xor (q : Q (.int (Builtin.bitXor i j)) H) : rI0 (fun i j => .int (Builtin.bitXor i j)) (.int i) (.int j) H Q := ⟨i, j, rfl, rfl, q⟩
theorem w_gt (q : Q (.bl (decide (j < i))) H) : rI0 (fun i j => .bl (decide (j < i))) (.int i) (.int j) H Q := ⟨i, j, rfl, rfl, q⟩
theorem w_lt (q : Q (.bl (decide (i < j))) H) : rI0 (fun i j => .bl (decide (i < j))) (.int i) (.int j) H Q := ⟨i, j, rfl, rfl, q⟩
theorem w_ge (q : Q (.bl (decide (j ≤ i))) H) : rI0 (fun i j => .bl (decide (j ≤ i))) (.int i) (.int j) H Q := ⟨i, j, rfl, rfl, q⟩
theorem w_le (q : Q (.bl (decide (i ≤ j))) H) : rI0 (fun i j => .bl (decide (i ≤ j))) (.int i) (.int j) H Q := ⟨i, j, rfl, rfl, q⟩
theorem w_eq {x y : V} (s : scal x y = true) (q : Q (.bl (decide (x = y))) H) : rEq x y H Q := ⟨s, q⟩
theorem w_ne {x y : V} (s : scal x y = true) (q : Q (.bl (!decide (x = y))) H) : rNe x y H Q := ⟨s, q⟩
theorem w_test (q : te σ H fun x H' => ∃ k, x = .bl k ∧ QB k H') : tTest te σ H QB := q
theorem w_tB (q : te σ H fun x H' => ∃ k, x = .bl k ∧ QB k H') : tB te σ H QB := q
theorem w_bl {b : Bool} {B : Bool → Prop} (q : B b) : ∃ k, V.bl b = .bl k ∧ B k := ⟨b, rfl, q⟩
theorem w_seq (q : t { D with nx := u D } σ H) : tSeq t u D σ H := q
theorem w_ret (q : te σ H D.rt) : tRet te D σ H := q
theorem w_next (q : D.nx σ H) : tNext D σ H := q
theorem w_asg {g : TG} (q : te σ H fun x H1 => g x σ H1 D.nx) : tAsg te g D σ H := q
theorem w_gname {n : Nat} {QS : L2.St → Hp → Prop} (q : QS (σ.set n (some v)) H) : gName n v σ H QS := q
theorem w_ifs (q : tc σ H fun b H1 => if b = true then t D σ H1 else u D σ H1) : tIfS tc t u D σ H := q
theorem w_ifx (q : tc σ H fun c H1 => if c = true then ta σ H1 Q else tb σ H1 Q) : tIf tc ta tb σ H Q := q
theorem w_nil (q : QA [] H) : tNil σ H QA := q
theorem w_cons (q : ta σ H fun x H1 => tr σ H1 fun xs H2 => QA (x :: xs) H2) : tCons ta tr σ H QA := q
theorem w_tup (q : tr σ H fun xs H1 => New HO.tup Q xs H1) : tTup tr σ H Q := q
theorem w_lst (q : tr σ H fun xs H1 => New HO.lst Q xs H1) : tLst tr σ H Q := q
theorem w_and2 {tt uu : TT} (q : tt σ H fun c H1 => if c = true then uu σ H1 QB else QB false H1) : tAnd tt uu σ H QB := q
theorem w_or2 {tt uu : TT} (q : tt σ H fun c H1 => if c = true then QB true H1 else uu σ H1 QB) : tOr tt uu σ H QB := q
theorem w_not {tt : TT} (q : tt σ H fun c H1 => QB (!c) H1) : tNot tt σ H QB := q
theorem w_cb {r : List V → Hp → VK → Prop} (q : tr σ H fun vs H1 => r vs H1 Q) : tCB r tr σ H Q := q
theorem w_call {sp : Sp} {dvs : List V} {E : XK} (q : tr σ H fun vs H1 => sp (vs ++ dvs) H1 Q E) : tCall sp dvs E tr σ H Q := q
theorem w_ixL {K : PySem.W.Frag} {p : Addr} {xs : List V} (h : SqL K H p xs) (a : atI xs i = some v) (q : Q v H) : rIxL K (.ref p) (.int i) H Q := ⟨p, xs, i, v, rfl, rfl, h, a, q⟩
theorem w_ixT {K : PySem.W.Frag} {p : Addr} {xs : List V} (h : SqT K H p xs) (a : atI xs i = some v) (q : Q v H) : rIxT K (.ref p) (.int i) H Q := ⟨p, xs, i, v, rfl, rfl, h, a, q⟩
theorem w_gsub {to ti : TE} {ts : TSet} {QS : L2.St → Hp → Prop} (q : to σ H fun o H1 => ti σ H1 fun i H2 => ts o i v H2 fun H3 => QS σ H3) : gSub to ti ts v σ H QS := q
theorem w_setL {p : Addr} {xs : List V} {n : Nat} {QH : Hp → Prop} (h : H p = some (.lst xs)) (a : ixN xs.length i = some n) (q : QH (upd H p (.lst (xs.set n v)))) : rSetL (.ref p) (.int i) v H QH := ⟨p, xs, i, n, rfl, rfl, h, a, q⟩
/-- the store, the heap behind it a letter -/
theorem w_setG {p : Addr} {xs ys : List V} {n : Nat} {QH : Hp → Prop} (h : H p = some (.lst xs)) (a : ixN xs.length i = some n) (e : xs.set n v = ys)
    (q : ∀ H' : Hp, H' p = some (.lst ys) → (∀ b, b ≠ p → H' b = H b) → QH H') : rSetL (.ref p) (.int i) v H QH := ⟨p, xs, i, n, rfl, rfl, h, a, q _ (by rw [← e]; exact upd_same) fun b nb => upd_ne nb⟩
theorem w_fld {K : PySem.W.Frag} {f : Str} (q : ta σ H fun x H1 => Fld K f x H1 Q) : tFld K ta f σ H Q := q
theorem w_sfld {K : PySem.W.Frag} {tv : TE} {f : Str} (q : tv σ H fun y H1 => ta σ H1 fun x H2 => SFld K f y x H2 (fun H3 => D.nx σ H3)) : sFld K ta tv f D σ H := q
theorem w_par {m n : Nat} {ta : TA} (q : ta σ H fun vs H1 => ∃ v w, vs = [v, w] ∧ D.nx ((σ.set m (some v)).set n (some w)) H1) : tPar m n ta D σ H := q
theorem w_andV {ta tb : TE} (q : ta σ H fun x H1 => ∃ c, x = .bl c ∧ if c = true then tb σ H1 Q else Q (.bl false) H1) : tAndV ta tb σ H Q := q
theorem w_orV {ta tb : TE} (q : ta σ H fun x H1 => ∃ c, x = .bl c ∧ if c = true then Q (.bl true) H1 else tb σ H1 Q) : tOrV ta tb σ H Q := q
theorem w_mid (M : L2.St → Hp → Prop) (a : t { D with nx := M } σ H) (b : ∀ σ' H', M σ' H' → u D σ' H') : tMid t u D σ H := ⟨M, a, b⟩
theorem w_in {K : PySem.W.Frag} {neg : Bool} {x : V} {p : Addr} {xs : List V} (h : SqL K H p xs ∨ SqT K H p xs) (f : flatV x = true) (fs : xs.all flatV = true) (q : Q (.bl (if neg then !inV x xs else inV x xs)) H) : rIn K neg x (.ref p) H Q := ⟨p, xs, rfl, h, f, fs, q⟩
theorem w_kd {K : PySem.W.Frag} {w : World} {p : Addr} {z : Str} (h : KDct K w p z v) (q : Q v H) : rIxD K w (.ref p) (.str z) H Q := ⟨p, z, v, rfl, rfl, h, q⟩
theorem w_meth {C : Addr} {m : Str} {sp : Sp} {dvs : List V} {E : XK} {tr : TA} (q : ta σ H fun x H1 => Mth C m x H1 (tr σ H1 fun vs H2 => sp (x :: (vs ++ dvs)) H2 Q E)) : tMeth C m sp dvs E ta tr σ H Q := q
theorem w_methK {C : Addr} {m : Str} {n : Nat} {sp : Sp} {gV : List V → List V → List V} {E : XK} {tr : TA} (q : ta σ H fun x H1 => Mth C m x H1 (tr σ H1 fun zs H2 => zs.length = n ∧ sp (gV [x] zs) H2 Q E)) : tMethK C m n sp gV E ta tr σ H Q := q
theorem w_for {wi : TI} {g : TG} {tb : TS} (q : wi σ H fun J H1 => Loop J g tb D σ H1) : tFor wi g tb D σ H := q
theorem w_itup {K : PySem.W.Frag} {tl : TE} {R : It → Hp → Prop} (q : tl σ H fun x H1 => OverT K x H1 R) : iTup K tl σ H R := q
theorem w_ilist {K : PySem.W.Frag} {tl : TE} {R : It → Hp → Prop} (q : tl σ H fun x H1 => OverL K x H1 R) : iList K tl σ H R := q
theorem w_irng {ta : TA} {R : It → Hp → Prop} (q : ta σ H fun vs H1 => OverR vs H1 R) : iRng1 ta σ H R := q
theorem w_disp {trs : List (TE × TE)} (q : ∀ (p : Addr) (H1 : Hp), H p = none → H1 p = some (.dK []) → Same H H1 → tPairs trs σ H1 fun ps H2 => DAll p ps Q H2) : tDisp trs σ H Q :=
  fun p np => q p _ np upd_same fun b u e => by rw [upd_ne (ne_of_none e np)]; exact e
theorem w_pnil {QP : List (V × V) → Hp → Prop} (q : QP [] H) : tPairs [] σ H QP := q
theorem w_pcons {tk tv : TE} {r : List (TE × TE)} {QP : List (V × V) → Hp → Prop} (q : tk σ H fun x H1 => tv σ H1 fun y H2 => tPairs r σ H2 fun ps H3 => QP ((x, y) :: ps) H3) : tPairs ((tk, tv) :: r) σ H QP := q
theorem w_dput {td ty tv : TE} (q : tv σ H fun v H1 => td σ H1 fun x H2 => ty σ H2 fun y H3 => DPutQ v x y H3 (fun H4 => D.nx σ H4)) : sDPut td ty tv D σ H := q
theorem w_dget {td ty : TE} (q : td σ H fun x H1 => ty σ H1 fun y H2 => DGetQ x y H2 Q) : tDGet td ty σ H Q := q
theorem w_make {C : Addr} {sp : Sp} {dvs : List V} {E : XK} {tr : TA} (q : tr σ H fun vs H1 => Make C sp (fun x => x :: (vs ++ dvs)) E H1 Q) : tMake C sp dvs E tr σ H Q := q
theorem w_makeK {C : Addr} {n : Nat} {sp : Sp} {gV : List V → List V → List V} {E : XK} {tr : TA} (q : tr σ H fun zs H2 => zs.length = n ∧ Make C sp (fun x => gV [x] zs) E H2 Q) : tMakeKG C n sp gV E tr σ H Q := q
theorem w_drop (q : te σ H fun _ H1 => D.nx σ H1) : tDrop te D σ H := q
end
end KG

set_option Elab.async false
set_option linter.all false
set_option maxRecDepth 100000
set_option maxHeartbeats 4000000
/-! KX: an error that a suite keeps under another name, and what is asked of it later. -/
namespace KG
open PySem PySem.Spec PyProof.Rows L2

/-- a caught error of the class cls at a, its dict d -/
def ErrO (cls : Value) (d : Option Addr) (a : Addr) : HO := .ext fun h => ∃ (oe : Obj) (vs : Array Value), h.get? a = some oe ∧ Zc cls d oe ∧ oe.data = .fields vs
theorem errO_ok {P : Program} {w : World} {H : Hp} {h : Heap} {cls : Value} {d : Option Addr} {a : Addr} {oe : Obj} {vs : Array Value} (e : h.get? a = some oe) (z : Zc cls d oe) (dd : oe.data = .fields vs) : ObjOk P w H h a (ErrO cls d a) :=
  ⟨⟨oe, vs, e, z, dd⟩, ⟨oe, e⟩, fun _ _ ⟨o, v, q, r⟩ k => ⟨o, v, k o q, r⟩⟩
theorem errO_at {P : Program} {w : World} {H : Hp} {h : Heap} {cls : Value} {d : Option Addr} {a : Addr} (hok : HOk P w H h) (e : H a = some (ErrO cls d a)) : ∃ (oe : Obj) (vs : Array Value), h.get? a = some oe ∧ Zc cls d oe ∧ oe.data = .fields vs := by
  have x : ObjOk P w H h a (.ext fun h => ∃ (oe : Obj) (vs : Array Value), h.get? a = some oe ∧ Zc cls d oe ∧ oe.data = .fields vs) := hok a _ e
  exact x.1

section
variable {X : Cx} {pins : List (Addr × Obj)} {σ : L2.St} {H : Hp} {s : Shared}
/-- an object that was not there at the entry is known from now on -/
theorem inv_know {a : Addr} {oe : Obj} {vs : Array Value} {o : HO} (I : Inv X pins σ H s) (ha : s.heap.get? a = some oe) (hd : oe.data = .fields vs) (new : ObjOk X.prog X.w (upd H a o) s.heap a o) (na : H a = none) (nL : a ≠ X.env.locals)
    (n0 : X.s_0.heap.get? a = none) (np : ∀ p ∈ X.pn ++ pins, p.1 ≠ a) : Inv X pins σ (upd H a o) s := by
  have nT : ∀ {b u}, H b = some u → b ≠ a := fun e => ne_of_none e na
  have nC : ∀ x c, X.env.cells.lookup x = some c → c ≠ a := fun x c e z => by
    obtain ⟨v, oc, e1, e2⟩ := I.cell x c e
    rw [z, ha] at e1
    cases e1
    rw [hd] at e2
    cases e2
  refine ⟨I.ok, I.os, I.bare, ⟨I.base.keep, I.base.slot, fun b u e n hx => ?_, I.base.there, fun b xs e => ?_, fun b u v e => ?_, fun b ps e => ?_⟩, I.loc, I.cell, ?_, fun x c e => ?_, fun p hp => ?_, fun b u e => ?_, I.len⟩
  · rw [upd_ne (fun z => by rw [z, n0] at e; cases e)]
    exact I.base.free b u e n hx
  · have q := I.base.tups b xs e
    rw [upd_ne (nT q)]; exact q
  · have q := I.base.frzs b u v e
    rw [upd_ne (nT q)]; exact q
  · obtain ⟨m, q⟩ := I.base.tbls b ps e
    exact ⟨m, by rw [upd_ne (nT q)]; exact q⟩
  · rw [upd_ne (Ne.symm nL)]; exact I.free
  · rw [upd_ne (nC x c e)]; exact I.freeC x c e
  · obtain ⟨e, n, ne, nf, d⟩ := I.pin p hp
    exact ⟨e, by rw [upd_ne (np p hp)]; exact n, ne, nf, d⟩
  · by_cases hb : b = a
    · subst hb
      rw [upd_same] at e
      cases e
      exact new
    · rw [upd_ne hb] at e
      exact (I.hok b u e).stay (fun c v _ q => q) (fun c q => by rw [upd_ne (nT q)]; exact q) fun c xs q => by rw [upd_ne (nT q)]; exact q
end

/-- what the clause wishes, the error known behind its suite; slot i is the name's -/
def wKeep (K : PySem.W.Frag) (c : Value) (i : Nat) (ts : Addr → Value → Option Addr → TS) (Wout : WX) (D : Ends) : WX := fun cls d σ H => ∃ b, PySem.W.exmOne K cls c = some b ∧
  (b = true → ∀ a, H a = none → ts a cls d
    { nx := fun τ G => D.nx (τ.set i none) (upd G a (ErrO cls d a)), rt := fun v G => D.rt v (upd G a (ErrO cls d a)), bk := fun τ G => D.bk (τ.set i none) (upd G a (ErrO cls d a)), ct := fun τ G => D.ct (τ.set i none) (upd G a (ErrO cls d a)) } (σ.set i (some (.ref a))) H) ∧
  (b = false → Wout cls d σ H)

/-- an object of fields is no frame -/
theorem off_frames {B h : Heap} {l : List Env} {a : Addr} {o : Obj} {vs : Array Value} (ff : h.FunFrames B l) (e : h.get? a = some o) (d : o.data = .fields vs) : a ∉ frs l := by
  intro inside
  have ⟨_, p, ep, plain⟩ := ff.mem inside
  have same : o = p := Option.some.inj (e.symm.trans ep)
  exact plain vs (same ▸ d)
/-- where a caught error lies: beside the frames, the pins and all that was there at the entry -/
structure Beside (X : Cx) (pins : List (Addr × Obj)) (a : Addr) : Prop where
  own : a ≠ X.env.locals
  outer : a ∉ X.fs
  entry : X.s_0.heap.get? a = none
  pinned : ∀ p ∈ X.pn ++ pins, p.1 ≠ a
section
variable {X : Cx} {x n : Str} {c : Value} {i : Nat} {body suite : List Stmt} {b₀ : Stmt} {np pos pos' : Pos} {tb : WX → TS} {ts : Addr → Value → Option Addr → TS} {Wout : WX} {pins : List (Addr × Obj)} {σ : L2.St} {H : Hp} {s : Shared} {D : Ends}
theorem beside_of {B : Heap} {a : Addr} (stk : X.stack = X.env :: X.outer) (fr : X.env.frame = some X.env.locals) (noex : X.ex = []) (I : Inv X pins σ H s) (ground : ∀ b o, s.heap.get? b = some o → b ∉ frs X.stack → B.get? b = some o)
    (fresh : B.get? a = none) (off : a ∉ frs (X.env :: X.outer)) : Beside X pins a := by
  have gap : s.heap.get? a = none := by
    rcases e : s.heap.get? a with _ | o
    · rfl
    · have below := ground a o e (by rw [stk]; exact off)
      exact absurd (fresh.symm.trans below) (by simp)
  constructor
  · intro z
    refine off (List.mem_filterMap.mpr ⟨X.env, .head _, ?_⟩)
    rw [z, fr]
  · intro inside
    have ⟨env, henv, at_⟩ := List.mem_filterMap.mp inside
    exact off (List.mem_filterMap.mpr ⟨env, .tail _ henv, at_⟩)
  · rcases e : X.s_0.heap.get? a with _ | o
    · rfl
    · have ⟨_, still⟩ := I.base.there a o e (by rw [noex]; simp)
      exact absurd (gap.symm.trans still) (by simp)
  · intro p hp z
    have kept := (I.pin p hp).1
    rw [z] at kept
    exact absurd (gap.symm.trans kept) (by simp)
/-- the way out of the suite: the name goes, the error is known -/
theorem way_out {a : Addr} {oe : Obj} {vs : Array Value} {cls : Value} {d : Option Addr} {R : Shared → Prop} (ok : X.Ok) (nd : X.N.Nodup) (place : X.N[i]? = some n) (loc : X.env.kindOf n = some .local) (by_ : Beside X pins a) (z : Zc cls d oe) (dd : oe.data = .fields vs)
    (S : Inv (X.suite a ((a, oe) :: (X.pn ++ pins))) [] σ H s) (next : ∀ s', Inv X pins (σ.set i none) (upd H a (ErrO cls d a)) s' → R s') :
    wpAny (model X.prog X.w) X.A (do bindName X.env n .none; unbindBehindTheSuite X.env n pos') (fun _ s' => R s') X.xe s := by
  refine gone_ok (X := X.suite a ((a, oe) :: (X.pn ++ pins))) (pins := []) S nd place loc fun s' S' => next s' ?_
  have ⟨there, free, _⟩ := S'.pin (a, oe) (List.mem_append_left _ (.head _))
  exact inv_know (S'.unsuite ok) there dd (errO_ok there z dd) free by_.own by_.entry by_.pinned
/-- the clause's class by its name, within the suite's marks -/
theorem class_of_clause {a : Addr} {oe : Obj} {Q E : Value → Shared → Prop} (hc : Names X x c) (S : Inv (X.suite a ((a, oe) :: (X.pn ++ pins))) [] σ H s) (q : Q c s) : wpAny (model X.prog X.w) (X.A.mark (some (.ref a))) (eval (.Name x np) X.env) Q E s := by
  have ⟨glob, plain, from_⟩ := hc
  rcases from_ with own | ⟨no, boot, nn⟩
  · exact ld_glob (X := X.suite a ((a, oe) :: (X.pn ++ pins))) S glob own q plain
  · exact ld_blt (X := X.suite a ((a, oe) :: (X.pn ++ pins))) S glob no boot q nn plain
/-- an error that comes out of the body meets the clause -/
theorem clause_meets {xe₀ : Value → Shared → Prop} {u : Value} {s' : Shared} (stk : X.stack = X.env :: X.outer) (fr : X.env.frame = some X.env.locals) (noex : X.ex = []) (nd : X.N.Nodup) (place : X.N[i]? = some n) (loc : X.env.kindOf n = some .local) (hc : Names X x c) (tk : Takes X Wout)
    (inner : ∀ (a : Addr) (oe : Obj) (cls : Value) (d : Option Addr) (pn : List (Addr × Obj)), Zc cls d oe → (∃ vs, oe.data = .fields vs) → PSs (X.suite a ((a, oe) :: pn)) (b₀ :: suite) (ts a cls d)) (ok : X.Ok) (xx : XE (X.tr (X.pn ++ pins) xe₀) (wKeep X.K c i ts Wout D) u s') :
    wpAny (model X.prog X.w) X.A (noteFrame u X.env) (fun _ s₂ => wpAny (model X.prog X.w) X.A (setFlight u none) (fun _ s₃ => wpAny (model X.prog X.w) X.A (handleBy u X.env [.ExceptHandler (some (.Name x np)) (some n) (b₀ :: suite) pos']) (SP X pins D) X.xe s₃) X.xe s₂) X.xe s' := by
  have ⟨a, B, sI, _, τ, G, cls, d, eu, J', ground, grown, sky, free, os, bare, b, which, yes, no⟩ := xx
  subst eu
  have J : Inv X pins τ G sI := J'.ofTry ok
  have all_frames : X.A.frames = some (X.env :: X.outer) := stk ▸ ok.frames
  refine Sky.land (Zc.steady (cls := cls) (d := d)) all_frames fr (stk ▸ sky) fun h1 fl1 g1 => ?_
  have I1 : Inv X pins τ G { s' with heap := h1 } := J.landed ground fl1.1 (grown.trans g1) os bare
  have ⟨o1, v1, at1, z1, d1⟩ := fl1.there
  have by_ : Beside X pins a := beside_of stk fr noex J ground fl1.2.1 (off_frames fl1.2.2.1 at1 d1)
  have T1 := I1.suite at1 d1 free by_.own by_.outer
  have kind : PySem.W.Looks (model X.prog X.w) h1 (typeOf (.ref a)) cls := fun _ _ _ _ keeps q => wpAny_typeOf_ref (keeps _ _ at1) (z1.1.symm ▸ q)
  refine wpAny_handleBy_cons (codeAny_handlers_test (class_of_clause hc T1 ((PySem.W.exm_one (M := model X.prog X.w) I1.kIn kind which).here ?_))) (fun z => nomatch z)
  rcases b with _ | _
  · -- another clause's, or nobody's: it goes on
    refine wpAny_handleBy_nil ?_
    have goes : wpAny (model X.prog X.w) X.A (setFlight (.ref a) X.env.frame) (fun _ s₄ => wpAny (model X.prog X.w) X.A (throw (.ref a) : Sem Flow) (SP X pins D) X.xe s₄) X.xe { s' with heap := h1 } := by
      rw [fr]
      exact HandSPX.setFlight_upZ fl1 fun h2 held g2 => wpAny_throw (tk _ _ ⟨a, B, sI, pins, τ, G, cls, d, rfl, J, ground, (grown.trans g1).trans g2, .inr (.inr (by rw [stk]; exact held)), free, os, bare, no rfl⟩)
    have ⟨_, _, _, _, _, T, _, _, atE, _, dE, first, _⟩ := fl1
    unfold PySem.passOn
    refine wpAny_bind (wpAny_field atE dE first ?_)
    have some_ : ¬ ((Value.ref T == Value.none) = true) := by simp
    rw [if_neg some_]
    first
      | exact wpAny_bind (wpAny_pure (wpAny_bind goes))
      | exact wpAny_bind goes
  · -- this clause's: the suite
    refine codeAny_handlers_suite_as (HandSPX.lands_againZ fl1 fun h2 fl2 g2 => ?_)
    have ⟨o2, v2, at2, z2, d2⟩ := fl2.there
    have T2 := (J.landed ground fl2.1 ((grown.trans g1).trans g2) os bare : Inv X pins τ G { s' with heap := h2 }).suite at2 d2 free by_.own by_.outer
    refine store_ok (X := X.suite a ((a, o2) :: (X.pn ++ pins))) (v := .ref a) T2 nd place (.inl loc) rfl (fun s3 T3 => ?_) (.inr loc)
    refine wpAny_mono ((inner a o2 cls d (X.pn ++ pins) z2 ⟨_, d2⟩).run [] s3 _ G _ T3 (yes rfl a free)) (fun flow s4 ends => ?_) (fun _ _ z => False.elim z)
    match flow, ends with
    | .next, ⟨_, _, T4, q⟩ => exact way_out ok nd place loc by_ z2 d2 T4 fun _ I5 => ⟨_, _, I5, q⟩
    | .brk, ⟨_, _, T4, q⟩ => exact way_out ok nd place loc by_ z2 d2 T4 fun _ I5 => ⟨_, _, I5, q⟩
    | .cont, ⟨_, _, T4, q⟩ => exact way_out ok nd place loc by_ z2 d2 T4 fun _ I5 => ⟨_, _, I5, q⟩
    | .ret _, ⟨_, _, _, T4, r, q⟩ => exact way_out ok nd place loc by_ z2 d2 T4 fun _ I5 => ⟨_, _, _, I5, r, q⟩
/-- try: body / except x as n: suite; the error is known behind the suite -/
theorem ps_try_keep (hs : X.stack = X.env :: X.outer) (hf : X.env.frame = some X.env.locals) (hex : X.ex = []) (hN : X.N.Nodup) (hi : X.N[i]? = some n) (hln : X.env.kindOf n = some .local) (hc : Names X x c) (tk : Takes X Wout)
    (hb : ∀ (W : WX) (pn : List (Addr × Obj)) (xe : Value → Shared → Prop), Takes (X.tr pn xe) W → PassesOwn (model X.prog X.w) X.A X.env xe → PSs (X.tr pn xe) body (tb W))
    (hsu : ∀ (a : Addr) (oe : Obj) (cls : Value) (d : Option Addr) (pn : List (Addr × Obj)), Zc cls d oe → (∃ vs, oe.data = .fields vs) → PSs (X.suite a ((a, oe) :: pn)) (b₀ :: suite) (ts a cls d)) :
    PS X (.Try body [.ExceptHandler (some (.Name x np)) (some n) (b₀ :: suite) pos'] [] [] pos) (fun D σ H => tb (wKeep X.K c i ts Wout D) D σ H) := by
  constructor
  intro pins s σ H D I start_
  refine wpAny_Try_except ?_
  refine wpAny_mono ((hb _ (X.pn ++ pins) (fun u s₁ => wpAny (model X.prog X.w) X.A (noteFrame u X.env) (fun _ s₂ => wpAny (model X.prog X.w) X.A (setFlight u none) (fun _ s₃ => wpAny (model X.prog X.w) X.A (handleBy u X.env [.ExceptHandler (some (.Name x np)) (some n) (b₀ :: suite) pos']) (SP X pins D) X.xe s₃) X.xe s₂) X.xe s₁)
    (fun _ _ xx => clause_meets hs hf hex hN hi hln hc tk hsu I.ok xx) PassesOwn.looking).run [] s σ H D (I.toTry _) start_) (fun flow s1 ends => ?_) (fun _ _ z => z)
  match flow, ends with
  | .next, ⟨_, _, T, q⟩ => exact wpAny_execs_nil ⟨_, _, T.ofTry I.ok, q⟩
  | .brk, ⟨_, _, T, q⟩ => exact ⟨_, _, T.ofTry I.ok, q⟩
  | .cont, ⟨_, _, T, q⟩ => exact ⟨_, _, T.ofTry I.ok, q⟩
  | .ret _, ⟨_, _, _, T, r, q⟩ => exact ⟨_, _, _, T.ofTry I.ok, r, q⟩
end

/-! ### what is asked of a known error -/
/-- isinstance(e, c): D the error's class -/
def rIsErr (K : PySem.W.Frag) : List V → Hp → VK → Prop := fun xs H Q => ∃ (a D : Addr) (dd : Addr) (fs : List (Str × V)) (c : V) (cv : Value) (b : Bool), xs = [.ref a, c] ∧ H a = some (ErrO (.ref D) (some dd) a) ∧ H dd = some (.xd fs) ∧ ExcC K D ∧
  (∀ u, RelV c u → u = cv) ∧ PySem.W.kitOne K (.ref D) cv = some b ∧ Q (.bl b) H
theorem excC_cls {K : PySem.W.Frag} {D : Addr} (C : ExcC K D) : (PySem.W.clsIn K D).isSome = true := by
  obtain ⟨cd, hc, _⟩ := PySem.W.any_some C.hd
  rw [hc] <;> rfl
theorem call_isErr {X : Cx} : CallR X (.builtin "isinstance") (rIsErr X.K) := by
  intro pins s σ H xs us Q I r h
  obtain ⟨a, D, dd, fs, c, cv, b, rfl, ha, hdd, C, hcv, e, q⟩ := h
  cases r with
  | cons rx rr =>
    cases rr with
    | cons rt rr =>
      cases rr
      cases rx
      have ec := hcv _ rt
      subst ec
      obtain ⟨oe, vs, hget, hz, hv⟩ := errO_at I.hok ha
      obtain ⟨mA, ⟨od, _, _, ho, _⟩, _⟩ := I.hok dd _ hdd
      have J : PySem.W.InstAt s.heap a oe D (some od) := by
        obtain ⟨oc, oda, odt, osl⟩ := oe
        obtain ⟨h1, h2⟩ := hz
        dsimp only at h1 h2 hv
        subst h1 h2 hv
        exact ⟨hget, rfl, rfl, ho⟩
      exact PySem.W.kia_one (PySem.W.kitx_exc (excC_cls C) C.hg C.hk C.hs C.ha C.hn C.ht C.hm) I.kIn J e (fun z => nomatch z) fun tk => ⟨.bl b, H, I.kept (t' := tk) fun _ _ z => z, rfl, q⟩
/-- e.f of a known error -/
def tErrF (K : PySem.W.Frag) (te : TE) (f : Str) : TE := fun σ H Q => te σ H fun x H1 => ∃ (a C dd : Addr) (fs : List (Str × V)) (v : V), x = .ref a ∧ H1 a = some (ErrO (.ref C) (some dd) a) ∧ H1 dd = some (.xd fs) ∧ XfC K C ∧ PySem.W.findIn K (.ref C) f = some none ∧ fs.lookup f = some v ∧ Q v H1
theorem pe_errf {X : Cx} {e : Expr} {te : TE} {pos : Pos} {n : Str} (he : PE X e te) (hb : attributeBase e n X.env (eval e X.env) = eval e X.env := by rfl) : PE X (.Attribute e n pos) (tErrF X.K te n) := by
  refine ⟨fun pins s σ H Q I h => ?_⟩
  refine attr_of hb (thn (he.run pins s σ H _ I h) fun u s1 hh => ?_)
  obtain ⟨x, H1, I1, rx, a, C, dd, fs, v, ex, ha, hdd, T, hno, l, q⟩ := hh
  subst ex
  obtain rfl : u = Value.ref a := rx
  obtain ⟨oe, vs, hget, hz, hv⟩ := errO_at I1.hok ha
  obtain ⟨mA, hns, hr⟩ := I1.hok dd _ hdd
  obtain ⟨od, ho, hl⟩ := lookIn_ns hns
  obtain ⟨u, hu, ru⟩ := RelO.some_of (v := v) (o := mA n) (by rw [← l]; exact hr n)
  have J : PySem.W.InstAt s1.heap a oe C (some od) := ⟨hget, hz.1, by unfold PySem.W.notCls; rw [hv] <;> rfl, by rw [hz.2]; exact ho⟩
  exact HandSPX.exc_get I1.kIn J T.ga T.gg T.exC (PySem.W.findObj_own T.hdC hno rfl (by rw [hl, hu])) (handed_of ru) ⟨v, H1, I1.tok _, ru, q⟩
end KG

set_option Elab.async false
set_option linter.all false
set_option maxRecDepth 100000
set_option maxHeartbeats 4000000
/-! KE1: an own error, its __init__ of two lines: super().__init__('..'), self.f = value. -/
namespace KG
open PySem PySem.Spec PySem.Calls PyProof.Rows L2
open PySem.W (ksFn ksEnv)

/-- what the written part says of such a class at C, its __init__ at fI; pv: the value's name, fld: the field -/
structure ErrC (prog : Program) (K : PySem.W.Frag) (C fI : Addr) (qual pv fld : Str) (params : Arguments) (body : List Stmt) (scope : Scope) : Prop where
  cls : OexC K C
  ini : PySem.W.findIn K (.ref C) "__init__" = some (some (.ref fI))
  fn : PySem.W.typeIn K (.ref fI) = some (.type "function")
  fun_ : ∃ (oc kV doc pm ct : Value) (an od : Option Addr) (cda cc : Addr) (osl : Array (Option Value)) (ccl cl : Value) (cdd cld : Option Addr) (vs : Array Value) (ccs csl : Array (Option Value)) (file : Str) (tf : Tok),
    K.lookup fI = some ⟨oc, od, .func (ksFn "__init__" qual params body scope .none kV doc pm an (.ref cda) ct cc), osl⟩ ∧ PySem.W.codeIn K (.ref cda) qual = true ∧
    K.lookup cda = some ⟨ccl, cdd, .fields vs, ccs⟩ ∧ vs[2]? = some (.str file tf) ∧ ((prog.main.file : Str) == file) = true ∧ K.lookup cc = some ⟨cl, cld, .cell (some (.ref C)), csl⟩
  self_ : PySem.W.mroIn K C (.ref C) = some true
  up : PySem.W.ks_superIn K C C "__init__" = some (some (.builtin "ValueError.__init__"))
  sub : PySem.W.subIn K (.ref C) (.type "ValueError") = some true
  opq : PySem.W.nsIn K cStatics "thirdparty.any" = some none
  nosup : PySem.W.nsIn K mainGlobals "super" = some none
  top : (prog.main.scope.names.lookup ("super" : Str)).isSome = false
  nofld : PySem.W.findIn K (.ref C) fld = some none

/-- the two lines -/
def errBody (msg pv fld : Str) (j : Nat) (p0 p1 p2 p3 p4 p5 p6 p7 p8 p9 : Pos) : List Stmt :=
  [.Expr (.Call (.Attribute (.Call (.Name "super" p0) [] [] p1) "__init__" p2) [.Constant (.str msg) j p3] [] p4) p5,
   .Assign [.Attribute (.Name "self" p6) fld p7] (.Name pv p8) p9]

/-- what the text of the two lines says -/
structure ErrT (qual pv fld msg : Str) (params : Arguments) (scope : Scope) (j : Nat) (p0 p1 p2 p3 p4 p5 p6 p7 p8 p9 : Pos) : Prop where
  bind : ∀ (kV doc pm : Value) (an : Option Addr) (cdv ct : Value) (cc : Addr) (x y : Value), bindArgs (ksFn "__init__" qual params (errBody msg pv fld j p0 p1 p2 p3 p4 p5 p6 p7 p8 p9) scope .none kV doc pm an cdv ct cc) ⟨[x, y], []⟩ = pure [(("self" : Str), x), (pv, y)]
  ev : ∃ pl : Env → Sem Bool, ∀ env : Env, eval (.Call (.Attribute (.Call (.Name "super" p0) [] [] p1) "__init__" p2) [.Constant (.str msg) j p3] [] p4) env = (do
      let ov ← attributeBase (.Call (.Name "super" p0) [] [] p1) "__init__" env (eval (.Call (.Name "super" p0) [] [] p1) env)
      standAt p2.atName
      let (f, first) ← holding [ov] (getMethod ov "__init__" (pl env))
      callWith p4 f first (backTo p4 (starEach [.Constant (.str msg) j p3] env)) [])
  par : (params.posonlyargs ++ params.args).head?.map (·.arg) = some "self"
  k1 : scope.names.lookup ("self" : Str) = some .local
  k2 : scope.names.lookup pv = some .local
  k3 : scope.names.lookup ("super" : Str) = some .globalImplicit
  k4 : scope.names.lookup ("__class__" : Str) = some .free
  npv : pv ≠ "self"
  npd : (pv == ("__debug__" : Str)) = false
  cell : ∀ x ∈ scope.names, x.2 ≠ .cell
  co : scope.isCoroutine = false
  gen : scope.isGenerator = false
  kind : scope.kind = .function

section
variable {prog : Program} {w : World} {A : Around} {R : Result → Shared → Prop} {K : PySem.W.Frag} {mg mb : Str → Option Value} {C fI : Addr} {qual pv fld msg : Str} {params : Arguments} {scope : Scope} {j : Nat} {p0 p1 p2 p3 p4 p5 p6 p7 p8 p9 : Pos}
theorem err_init {s : Shared} {e t0 : Addr} {u : Value} (T : ErrC prog K C fI qual pv fld params (errBody msg pv fld j p0 p1 p2 p3 p4 p5 p6 p7 p8 p9) scope)
    (kin : K.In s.heap) (nsm : s.heap.Ns mainGlobals mg) (nsb : s.heap.Ns builtinsNs mb) (mbb : ∀ x : Str, x ≠ "__name__" → mb x = bootBuiltins x) (lim : s.heap.NoLimit) (dep : A.depth < recursionLimit)
    (he : s.heap.get? e = some (PySem.HandSPX.excO C t0)) (nK : K.lookup e = none)
    (bind : ∀ (kV doc pm : Value) (an : Option Addr) (cdv ct : Value) (cc : Addr) (x y : Value), bindArgs (ksFn "__init__" qual params (errBody msg pv fld j p0 p1 p2 p3 p4 p5 p6 p7 p8 p9) scope .none kV doc pm an cdv ct cc) ⟨[x, y], []⟩ = pure [(("self" : Str), x), (pv, y)])
    (pl : Env → Sem Bool) (hev : ∀ env : Env, eval (.Call (.Attribute (.Call (.Name "super" p0) [] [] p1) "__init__" p2) [.Constant (.str msg) j p3] [] p4) env = (do
      let ov ← attributeBase (.Call (.Name "super" p0) [] [] p1) "__init__" env (eval (.Call (.Name "super" p0) [] [] p1) env)
      standAt p2.atName
      let (f, first) ← holding [ov] (getMethod ov "__init__" (pl env))
      callWith p4 f first (backTo p4 (starEach [.Constant (.str msg) j p3] env)) []))
    (hpar : (params.posonlyargs ++ params.args).head?.map (·.arg) = some "self")
    (k1 : scope.names.lookup ("self" : Str) = some .local) (k2 : scope.names.lookup pv = some .local) (k3 : scope.names.lookup ("super" : Str) = some .globalImplicit) (k4 : scope.names.lookup ("__class__" : Str) = some .free)
    (npv : pv ≠ "self") (hpd : (pv == ("__debug__" : Str)) = false) (hcell : ∀ x ∈ scope.names, x.2 ≠ .cell) (hco : scope.isCoroutine = false) (hgen : scope.isGenerator = false) (hk : scope.kind = .function)
    (hq : ∀ h' t' dx, (∀ b o, b ≠ e → s.heap.get? b = some o → h'.get? b = some o) → s.heap.objs.size ≤ dx → dx ≠ e →
      (∃ t1 : Addr, h'.get? e = some ({ cls := .ref C, dict := some dx, data := .fields #[.ref t1, .none, .none, .none, .bool false, .none] } : Obj)) → h'.Ns1 dx (fun y => if y = fld then some u else none) →
      R (.ok (.ret .none)) { s with heap := h', toks := t' }) :
    codeAny (model prog w) A (.call (.ref fI) ⟨[.ref e, u], []⟩) R s := by
  obtain ⟨oc, kV, doc, pm, ct, an, od, cda, cc, osl, ccl, cl, cdd, cld, vs, ccs, csl, file, tf, lkF, code, lkC, hvs, hfile, lkCell⟩ := T.fun_
  obtain ⟨nm, q, N, bs, bm, sn, sub, ab, col, dd, c0, c1, c2, c3, c5, hC, hbm⟩ := T.cls.cls
  have hcl : PySem.W.clsIn K C = some { name := nm, bases := bs, mro := .ref C :: bm, ns := N, qualname := q, hasDict := true, slotNames := sn, subclasses := sub, abstract := ab, collection := col, hasDel := false } := by
    unfold PySem.W.clsIn
    rw [hC] <;> rfl
  obtain ⟨ar, har, hself⟩ : ∃ ar, (params.posonlyargs ++ params.args).head? = some ar ∧ ar.arg = "self" := by
    cases z : (params.posonlyargs ++ params.args).head? with
    | none => rw [z] at hpar; cases hpar
    | some ar => rw [z] at hpar; exact ⟨ar, rfl, Option.some.inj hpar⟩
  have eC : e ≠ C := fun z => by
    have z1 := kin _ _ hC
    rw [z, z1] at he
    cases he
  refine ks_codeAny_call_defAt (fd := ksFn "__init__" qual params (errBody msg pv fld j p0 p1 p2 p3 p4 p5 p6 p7 p8 p9) scope .none kV doc pm an (.ref cda) ct cc) (body := errBody msg pv fld j p0 p1 p2 p3 p4 p5 p6 p7 p8 p9) (binds := [(("self" : Str), .ref e), (pv, u)])
    dep (kin _ _ lkF) rfl lim (PySem.W.codeRec_of kin code) rfl (.of_eq (bind ..)) hcell (fun y hy => ?_) (fun h1 ns1 kp1 => ?_) hco hgen hk
  · rcases List.mem_cons.mp hy with z | z
    · rw [z]; exact k1
    · rcases List.mem_cons.mp z with z | z
      · rw [z]; exact k2
      · cases z
  have kin1 : K.In h1 := kin.keeps kp1
  obtain ⟨hp, g, d, t, os⟩ := s
  have hint : interactive (callEnv (ksFn "__init__" qual params (errBody msg pv fld j p0 p1 p2 p3 p4 p5 p6 p7 p8 p9) scope .none kV doc pm an (.ref cda) ct cc) hp.objs.size fI) = false := by
    unfold interactive
    simp [callEnv, newEnv, hk]
  refine ks_wpAt_execs_cons (ks_wpAt_Expr_any (ks_wpAt_MethodCall (ks_wpAt_super_base k3 k4 (by decide) rfl (kin1 _ _ lkF) rfl har rfl (kin1 _ _ lkC) rfl hvs hfile T.top ?_) (hev _)) hint)
  refine PySem.W.ks_loadName_global hk k3 (loadGlobal_builtin (nsm.keeps kp1) (PySem.W.mg_none_of kin nsm T.nosup) (nsb.keeps kp1) ((mbb _ (by decide +kernel)).trans (by decide +kernel)) ⟨rfl, ?_⟩)
  refine wpAny_loadName_free hk k4 rfl ⟨_, kin1 _ _ lkCell, rfl⟩ ?_
  rw [hself]
  refine wpAny_loadName_local hk k1 ns1 (v := .ref e) ?_ ?_
  · show List.lookup ("self" : Str) ([(("self" : Str), Value.ref e), (pv, u)] : List (Str × Value)).reverse = _
    simp [List.lookup, beq_eq_false_iff_ne.mpr (Ne.symm npv)]
  have he1 : h1.get? e = some (PySem.HandSPX.excO C t0) := kp1 _ _ he
  have hD1 := kin1 _ _ hC
  refine ks_wpAny_isType_cls hD1 rfl ⟨rfl, ?_⟩
  refine ks_wpAny_call_super hD1 rfl he1 rfl (fun c z => by cases z) (PySem.W.looks_mroIn kin1 T.self_) (fun h2 eso kp2 => ?_)
  have kin2 : K.In h2 := kin1.keeps kp2
  have he2 := kp2 _ _ he1
  have inst2 : PySem.W.InstAt h2 e (PySem.HandSPX.excO C t0) C none := ⟨he2, rfl, rfl, trivial⟩
  have sup := T.up
  unfold PySem.W.ks_superIn at sup
  rw [hcl] at sup
  refine PySem.W.kxs_getMethod PySem.W.kxs_ValueError eso (PySem.W.looks_opaque kin2 T.opq) (l₀ := Value.ref C :: bm) (fun A Q E s k q => wpAny_bind ((PySem.W.looks_clsIn kin2 hcl) A _ E s k (wpAny_pure q))) rfl kin2 sup (inst2.type.andThen (PySem.W.looks_subIn kin2 T.sub)) eC (by decide) ?_
  have ku := Heap.get?_push_size h2 (o := PySem.W.kxs_mw "ValueError.__init__" e) rfl
  have kp3 : ∀ b o, h2.get? b = some o → (h2.push (PySem.W.kxs_mw "ValueError.__init__" e)).get? b = some o := fun b o z => Heap.get?_push_of_some _ z
  refine PySem.W.kxs_callWith (i := "ValueError.__init__") (x := e) rfl (evalArgs_plain (Calls.spliced_cons (Calls.Constant_str (k := j) (pos := p3) (Calls.spliced_nil ⟨ku, ?_⟩))))
  have he3 := kp3 _ _ he2
  have hC3 := kp3 _ _ (kp2 _ _ hD1)
  refine wpAny_call (codeAny_of_tree ?_)
  show wpAny _ (Around.in1 _) (callAny (.ref h2.objs.size) ⟨[.str msg _], []⟩) _ _ _
  simp only [callAny]
  refine wpAny_bind (wpAny_load ku ?_)
  simp only [PySem.W.kxs_mw, show (Value.type "method-wrapper" == Value.type "method" || Value.type "method-wrapper" == Value.type "builtin_function_or_method" || Value.type "method-wrapper" == Value.type "method-wrapper") = true by decide, if_true]
  refine PySem.W.KFB.if_so (by decide) ?_
  refine wpAny_bind (PySem.W.check_bound_init PySem.F.excBase_ValueError.toExcCallFacts hC3 he3 rfl ?_)
  refine wpAny_bind (wpAny_pure (wpAny_pure ?_))
  refine ⟨plainId_quiet PySem.F.excBase_ValueError.init.plain _, codeAny_builtin PySem.F.excBase_ValueError.initEntry ?_⟩
  refine PySem.W.exc_init_tree (cls := .ref C) (t0 := t0) (dv := none) (c2 := .none) (c3 := .none) (b4 := .bool false) he3 (by show 1 ≤ sizeLine; rw [sizeLine_eq]; omega) fun h4 kp4 he4 _ => ?_
  have neF : hp.objs.size ≠ e := Nat.ne_of_gt (Heap.lt_size he)
  have kin4 : K.In h4 := fun b o z => kp4 b o (fun y => by
    rw [y, nK] at z
    cases z) (kp3 _ _ (kin2 b o z))
  have ns4 : h4.Ns hp.objs.size (fun y => ([(("self" : Str), Value.ref e), (pv, u)] : List (Str × Value)).reverse.lookup y) := by
    obtain ⟨o, es, ep, ho, r⟩ := ns1
    exact ⟨o, es, ep, kp4 _ _ neF (kp3 _ _ (kp2 _ _ ho)), r⟩
  refine ks_wpAt_execs_cons (ks_wpAt_Assign_Attr ?_)
  refine wpAt_of_wpAny (wpAny_Name ?_ hpd)
  refine wpAny_loadName_local hk k2 ns4 (v := u) ?_ ?_
  · show List.lookup pv ([(("self" : Str), Value.ref e), (pv, u)] : List (Str × Value)).reverse = _
    simp [List.lookup]
  refine wpAny_Name ?_ (by decide)
  refine wpAny_loadName_local hk k1 ns4 (v := .ref e) ?_ ?_
  · show List.lookup ("self" : Str) ([(("self" : Str), Value.ref e), (pv, u)] : List (Str × Value)).reverse = _
    simp [List.lookup, beq_eq_false_iff_ne.mpr (Ne.symm npv)]
  refine PySem.W.set_plain kin4 (ox := _) (od := none) ⟨he4, rfl, rfl, trivial⟩ T.cls.sa ?_
  refine PySem.HandSPX.exc_osa kin4 he4 hcl (show PySem.HandSPX.refsVE (.ref C :: bm) = true from hbm) rfl T.nofld (fun h5 tk5 dx kp5 dn dne hx hn => ?_)
  show _root_.PySem.wpAt _ _ _ (execs [] _) _ _ _
  refine wpAt_of_wpAny (wpAny_execs_nil (hq h5 tk5 dx (fun b o ne z => kp5 b o ne (kp4 b o ne (kp3 _ _ (kp2 _ _ (kp1 _ _ z))))) ?_ dne ⟨_, hx⟩ hn))
  obtain ⟨oL, _, _, hoL, _⟩ := ns4
  exact Nat.le_trans (Nat.le_of_lt (Heap.lt_size hoL)) dn
end

section
variable {X : Cx} {k : Nat} {C fI : Addr} {x qual pv fld msg : Str} {params : Arguments} {scope : Scope} {j : Nat} {p0 p1 p2 p3 p4 p5 p6 p7 p8 p9 p pos : Pos} {e : Expr} {es : List Expr} {ta : TA}
/-- the making of an own error: its reading -/
def tErr (C : Addr) (fld : Str) (ta : TA) : L2.St → Hp → XK → Prop := fun σ H Q => ta σ H fun vs H1 => ∃ v, vs = [v] ∧ ∀ (dx : Addr) (H2 : Hp), H1 dx = none → H2 dx = some (.xd [(fld, v)]) → (∀ b, b ≠ dx → H2 b = H1 b) → Q (.ref C) (some dx) H2
theorem pmk_err (T : ErrC X.prog X.K C fI qual pv fld params (errBody msg pv fld j p0 p1 p2 p3 p4 p5 p6 p7 p8 p9) scope) (TT : ErrT qual pv fld msg params scope j p0 p1 p2 p3 p4 p5 p6 p7 p8 p9)
    (hr : Room (k + 1) X.A) (hg : Gl X x) (hm : X.mg x = some (.ref C)) (ha : PA X (e :: es) ta)
    (hdb : (x == ("__debug__" : Str)) = false := by decide) (hs : starEach (e :: es) X.env = (false, eval e X.env) :: starEach es X.env := by rfl) (hpl : (backTo pos (starEach es X.env)).any (·.1) = false := by rfl) :
    PMk X (.Call (.Name x p) (e :: es) [] pos) (tErr C fld ta) := by
  intro pins s σ H Q I h
  obtain ⟨nm, q, N, bs, bm, sn, sub, ab, col, dd, c0, c1, c2, c3, c5, hC, hbm⟩ := T.cls.cls
  refine wpAny_Call_Name_kw (ld_glob I hg hm ?_ hdb)
  refine PySem.W.callWith_K (h₀ := X.base) I.ok.mod.kin T.cls.kC (thn (ha.run pos pins s σ H _ I h) fun us s1 ⟨vs, H1, I1, r1, q1⟩ => ⟨I1.kIn, ?_⟩) hs hpl
  obtain ⟨v, ev, q1⟩ := q1
  subst ev
  obtain ⟨u, eu, ru⟩ := vals1 r1
  subst eu
  show wpAny _ _ (call (.ref C) [u]) _ _ _
  have mod := I1.mod
  obtain ⟨mb, nsb0, mbb⟩ := mod.blt
  have nsm := mod.glob.keeps I1.bk
  have nsb := nsb0.keeps I1.bk
  have lim := I1.nolimit
  have kin := I1.kIn
  have bare := I1.bare
  have fresh : ∀ {b : Addr}, s1.heap.objs.size ≤ b → H1 b = none := fun hb => I1.hok.fresh hb
  obtain ⟨hp, g, dr, tk, os⟩ := s1
  have kk : ∀ b o, hp.get? b = some o → ((hp.push (PySem.W.kdv_tup [u])).push (PySem.HandSPX.excO C hp.objs.size)).get? b = some o := fun b o z => Heap.get?_push_of_some _ (Heap.get?_push_of_some _ z)
  have hget : ((hp.push (PySem.W.kdv_tup [u])).push (PySem.HandSPX.excO C hp.objs.size)).get? (hp.objs.size + 1) = some (PySem.HandSPX.excO C hp.objs.size) := by heap_get
  have nK : X.K.lookup (hp.objs.size + 1) = none := by
    cases z : X.K.lookup (hp.objs.size + 1) with
    | none => rfl
    | some o => exact absurd (Heap.lt_size (kin _ _ z)) (Nat.not_lt.mpr (Nat.le_succ _))
  refine wpAny_call (PySem.HandSPX.call_own F.excBase_ValueError (fun Y => PySem.HandSPX.refsVE_contains Y bm hbm) (kin _ _ hC) (PySem.W.looks_findIn kin T.ini) (fun self => PySem.W.bind_fn kin self T.fn) (by show 1 ≤ sizeLine; rw [sizeLine_eq]; omega)
    (err_init (mg := X.mg) (mb := mb) (t0 := hp.objs.size) (e := hp.objs.size + 1) (u := u) T (kin.keeps kk) (nsm.keeps kk) (nsb.keeps kk) mbb (lim.keeps kk) (hr.make C [u] []).depth hget nK TT.bind TT.ev.choose TT.ev.choose_spec TT.par TT.k1 TT.k2 TT.k3 TT.k4 TT.npv TT.npd TT.cell TT.co TT.gen TT.kind
      fun h' t' dx kp dn dne hx hn => ⟨rfl, ?_⟩))
  obtain ⟨t1, hx⟩ := hx
  have dn' : hp.objs.size ≤ dx := Nat.le_trans (by simp only [Heap.size_push]; omega) dn
  have ne_old : ∀ {b : Addr} {o : Obj}, hp.get? b = some o → b ≠ hp.objs.size + 1 := fun z => Nat.ne_of_lt (Nat.lt_succ_of_lt (Heap.lt_size z))
  obtain ⟨G, g1, g2⟩ := restrict h' fun b => decide (b ≠ hp.objs.size + 1)
  have gk : ∀ b, b ≠ hp.objs.size + 1 → G.get? b = h'.get? b := fun b hb => g1 b (decide_eq_true hb)
  have ge : G.get? (hp.objs.size + 1) = none := g2 _ (by simp)
  have J : Inv X pins σ (upd H1 dx (.xd [(fld, v)])) ⟨G, g, dr, t', os⟩ := I1.laid (h' := G) (a := dx) (o := .xd [(fld, v)]) (t' := t') (fun b o z => (gk b (ne_old z)).trans (kp b o (ne_old z) (kk b o z))) dn'
    ⟨_, hn.at fun o y => (gk dx dne).trans y, relO_put (fs := []) ru fun g => True.intro⟩
  have nd : H1 dx = none := fresh dn'
  have na : upd H1 dx (.xd [(fld, v)]) (hp.objs.size + 1) = none := by
    rw [upd_ne (Ne.symm dne)]
    exact fresh (Nat.le_succ _)
  refine ⟨hp.objs.size + 1, _, _, ⟨G, g, dr, t', os⟩, _, .ref C, some dx, rfl, J, fun b o z => ?_, ge, hx, ⟨rfl, rfl⟩, rfl, rfl, na, rfl, bare, raises_own T.cls.exC T.cls.tyC, q1 dx _ nd upd_same fun b nb => upd_ne nb⟩
  by_cases hb : b = hp.objs.size + 1
  · rw [hb, ge] at z
    cases z
  · exact (gk b hb).symm.trans z
end
end KG

set_option Elab.async false
set_option linter.all false
set_option maxRecDepth 100000
set_option maxHeartbeats 1000000
/-! KH: a lambda without parameters handed to a def of the text, where nothing is shown; the end of a law whose defs lay code objects. -/
namespace KG
open PySem PySem.Spec PySem.Calls PyProof.Rows L2 LamX

/-- the lambda: its names, no parameters -/
structure LamT (sc scope : Scope) (params : Arguments) (body : Expr) : Prop where
  names : LamS sc scope
  bind : ∀ (q : Str) (cl : List (Str × Addr)) (pm cv ctv : Value), bindArgs (PySem.W.kla_fn "<lambda>" q params body scope cl pm cv ctv) ⟨[], []⟩ = pure []

/-- the frame of the def g that got it, entered from X at s -/
abbrev inDef (X : Cx) (N : List Str) (x : Str) (st : Stmt) (g : Addr) (cd : Value) (s : Shared) (H : Hp) : Cx := cxOf C8.CX0 X.prog X.w X.K X.mg X.base N x (defScope st) g cd X.A X.stack s H C8.E0
section
variable {X : Cx} {pins : List (Addr × Obj)} {σ : L2.St} {H HZ : Hp} {s : Shared} {k i : Nat} {N : List Str} {x a : Str} {st : Stmt} {g f c' : Addr} {cd pm ctv : Value} {params : Arguments} {body : Expr} {scope : Scope} {W : WX} {E : XK} {tb : TE} {p1 p2 : Pos}
/-- the lambda runs: from a frame over X's, at s1 -/
theorem lam_run {s1 : Shared} {env : Env} {A : Around} {Q : VK} (I : Inv X pins σ H s) (L : LamT X.env.scope scope params body) (e0 : Env0 X.prog X.w X.K X.mg X.base A (env :: X.stack) s1 HZ) (un : Un (frs X.stack) [] H HZ s.heap s1.heap) (lim : s1.heap.NoLimit)
    (rm : Room (k + 1) A) (gd : A.guards = some []) (fo : s1.heap.get? f = some (PySem.W.kla_obj "<lambda>" (X.env.qual ++ "<lambda>") params body scope (cloFrom X.env.cells scope.names []) pm c' ctv)) (co : ∃ (oc : Obj) (vs : Array Value) (t : Tok), s1.heap.get? c' = some oc ∧ oc.data = .fields vs ∧ vs[1]? = some (.str (X.env.qual ++ "<lambda>") t))
    (hbody : Room k (A.deeper (lamEnv X scope s1.heap.objs.size f c')) → (A.deeper (lamEnv X scope s1.heap.objs.size f c')).guards = some [] → PE (lamCx X A (env :: X.stack) s1 HZ E scope f c') body tb) (q : tb σ HZ Q) :
    codeAny (model X.prog X.w) A (.call (.ref f) ⟨[], []⟩) (CR (L2.CX X.prog X.w) (env :: X.stack) X.prog X.w HZ s1 Q E) s1 := by
  obtain ⟨oc, vs, t, g1, g2, g3⟩ := co
  refine PySem.W.kla_callFunE rm.depth fo rfl L.names.co L.names.gen rfl ⟨c', oc, vs, t, rfl, g1, g2, g3⟩ ?_
  rw [L.bind]
  refine wpAny_pure (wpAny_newFunctionEnv (fun y hy => (L.names.own y hy).2) (fun y hy => absurd hy List.not_mem_nil) (fun h2 ns2 sb2 => ⟨lim.fresh _ sb2, PySem.W.kla_codeExpr ?_⟩) L.names.kind)
  have kp : ∀ b o, s1.heap.get? b = some o → h2.get? b = some o := fun b o z => sb2.extBut b o (Nat.ne_of_lt (Heap.lt_size z)) (Heap.get?_push_of_some _ z)
  have J := lam_start2 (tk := s1.toks + ([] : List (Str × Value)).length) (E := E) (c' := c') (f := f) I L.names e0 rm.hd un ns2 kp
  exact wpAny_mono ((hbody (rm.deeper _) gd).run [] _ _ HZ Q J q) (fun v s' ⟨y, H', J', r, z⟩ => ⟨y, H', J'.os, J'.bare, J'.base, J'.hok, r, z⟩) fun _ _ z => z
/-- what stands at the name a is the lambda at f: a() -/
def Act (X : Cx) (N : List Str) (x : Str) (st : Stmt) (g : Addr) (cd : Value) (s : Shared) (H : Hp) (a : Str) (f c' : Addr) (tl : XK → Hp → VK → Prop) : Prop :=
  ∀ (W : WX) (pn : List (Addr × Obj)) (xe : Value → Shared → Prop) (p1 p2 : Pos), Takes ((inDef X N x st g cd s H).tr pn xe) W →
    PE ((inDef X N x st g cd s H).tr pn xe) (.Call (.Name a p1) [] [] p2) (fun σZ HZ Q => σZ[0]? = some (some (.ref f)) ∧ HZ c' = some (CodeO c' (X.env.qual ++ "<lambda>")) ∧ ∃ E : XK, (∀ cls d H', E cls d H' → W cls d σZ H') ∧ tl E HZ Q)
theorem act_of {t : XK → TE} (I : Inv X pins σ H s) (L : LamT X.env.scope scope params body) (fo : s.heap.get? f = some (PySem.W.kla_obj "<lambda>" (X.env.qual ++ "<lambda>") params body scope (cloFrom X.env.cells scope.names []) pm c' ctv)) (fn : H f = none) (ff : f ∉ frs X.stack)
    (rm : Room (k + 2) X.A) (gd : X.A.guards = some [])
    (hbody : ∀ (A : Around) (outer : List Env) (s : Shared) (H : Hp) (E : XK), Room k (A.deeper (lamEnv X scope s.heap.objs.size f c')) → (A.deeper (lamEnv X scope s.heap.objs.size f c')).guards = some [] → PE (lamCx X A outer s H E scope f c') body (t E))
    (hN : N[0]? = some a) (hv : Vis (defScope st) a) (hd : (a == ("__debug__" : Str)) = false) (hcd : (a == ("__classdict__" : Str)) = false) : Act X N x st g cd s H a f c' (fun E HZ Q => t E σ HZ Q) := by
  intro W pn xe p1 p2 tk
  refine ⟨fun pinsZ sZ σZ HZ Q IZ ⟨at0, hco, E, hW, hq⟩ => ?_⟩
  refine wpAny_Call_Name_kw (thn ((pe_var (pos := p1) (i := 0) hN hv hd hcd).run pinsZ sZ σZ HZ (fun v H1 => v = .ref f ∧ H1 = HZ) IZ ⟨.ref f, at0, rfl, rfl⟩) fun u s1 ⟨v, H1, I1, r1, ev, eH⟩ => ?_)
  subst ev
  subst eH
  obtain rfl : u = Value.ref f := r1
  have fo1 := I1.base.keep f _ fo fn ff (fun z => nomatch (show f ∈ ([] : List Addr) from z))
  have co1 := (I1.hok c' _ hco).1
  have rc : codeAny (model X.prog X.w) (X.A.deeper (envOfC x (defScope st) s.heap.objs.size g cd)) (.call (.ref f) ⟨[], []⟩) (CR (L2.CX X.prog X.w) (envOfC x (defScope st) s.heap.objs.size g cd :: X.stack) X.prog X.w H1 s1 Q E) s1 :=
    lam_run (X := X) (k := k) (Q := Q) (E := E) (tb := t E) (params := params) (body := body) (scope := scope) (pm := pm) (ctv := ctv) (c' := c') (f := f) I L I1.env0 I1.base I1.nolimit (rm.deeper _) gd fo1 co1 (fun r2 g2 => hbody _ _ _ _ _ r2 g2) hq
  refine PySem.W.callWith_F0 ⟨_, _, _, _, fo1⟩ (wpAny_call (codeAny_mono rc fun out s' ho => ?_))
  cases out with
  | error e => exact tk e s' (XE.of_call I1 (fun cls d H' h => hW cls d H' h) ho)
  | ok fl =>
    cases fl with
    | ret u => exact I1.after ho
    | next => exact False.elim ho
    | brk => exact False.elim ho
    | cont => exact False.elim ho
/-- the def that gets it: what it makes of the lambda's reading -/
def Gives (X : Cx) (x : Str) (st : Stmt) (a : Str) (TT : (XK → Hp → VK → Prop) → Hp → VK → Prop) : Prop :=
  ∃ N : List Str, FnScope N [a] (defScope st) ∧ N[0]? = some a ∧ Vis (defScope st) a ∧ ∀ (g : Addr) (cd : Value) (f c' : Addr) (s : Shared) (H : Hp) (Q : VK) (tl : XK → Hp → VK → Prop), Act X N x st g cd s H a f c' tl → H c' = some (CodeO c' (X.env.qual ++ "<lambda>")) → TT tl H Q →
    ∃ t, PSs (inDef X N x st g cd s H).nox (defBody st) t ∧ t { nx := fun _ H' => Q .non H', rt := Q } (L2.start N [.ref f]) H
/-- x(lambda: body) -/
theorem pe_lam {T : List (Addr × Str)} {TT : (XK → Hp → VK → Prop) → Hp → VK → Prop} {t : XK → TE} {c P : Addr} {p lpos pos : Pos} (D : DefAt X.K X.mg x st [a]) (G : Gives X x st a TT) (hg : Gl X x) (TB : TabB X.base X.mg c P) (hcode : X.env.code = .ref c)
    (hmT : (P, X.env.qual ++ "<lambda>") ∈ T) (hu : ∀ p ∈ T, p.1 = P → p.2 = X.env.qual ++ "<lambda>") (rm : Room (k + 2) X.A) (gd : X.A.guards = some []) (L : LamT X.env.scope scope params body) (hdef : defaultsOf params X.env = ([], []))
    (hbody : ∀ (A : Around) (outer : List Env) (s : Shared) (H : Hp) (E : XK) (f c' : Addr), Room k (A.deeper (lamEnv X scope s.heap.objs.size f c')) → (A.deeper (lamEnv X scope s.heap.objs.size f c')).guards = some [] → PE (lamCx X A outer s H E scope f c') body (t E))
    (hdb : (x == ("__debug__" : Str)) = false := by decide) (hd : (a == ("__debug__" : Str)) = false := by decide) (hcd : (a == ("__classdict__" : Str)) = false := by decide) : PE X (.Call (.Name x p) [.Lambda params body scope lpos] [] pos) (tLam T TT t) := by
  obtain ⟨g, fd, hm, F, b⟩ := D.ex
  obtain ⟨oc, od, kV, doc, pm, an, cdv, ct, osl, rfl, lk, hcg⟩ := F.ex
  obtain ⟨N, sc, hN, hv, G⟩ := G
  refine ⟨fun pins s σ H Q I ⟨hT, h⟩ => wpAny_Call_Name_kw (ld_glob I hg hm (PySem.W.callWith_K (h₀ := X.base) I.ok.mod.kin F.kp ?_ (by rfl) (by rfl)) hdb)⟩
  show wpAny _ _ (spliced ((false, eval (.Lambda params body scope lpos) X.env) :: backTo pos (starEach [] X.env))) _ _ s
  refine spliced_cons (lam_make2 I TB hcode hmT hu hT hdef (L.names.has I.ok) fun f c' pm' ctv H1 s' I1 eN T1 fo fn ff hco => spliced_nil ⟨I1.kIn, ?_⟩)
  refine wpAny_call (codeAny_mono (run_ofS (k := k + 1) (N := N) (ps := [a]) (us := [.ref f]) (vs := [.ref f]) (E := C8.E0) (CX := C8.CX0) (Q := Q) (H := H1) (outer := X.stack) (args := ⟨[.ref f], []⟩) lk hcg sc rm I1.env0 (b s' [.ref f] I1.kIn rfl) (.cons rfl .nil) rfl fun rm2 => ?_) fun out s2 ho => ?_)
  · obtain ⟨tt, h1, h2⟩ := G g cdv f c' s' H1 Q (fun E HZ Q => t E σ HZ Q) (act_of (k := k) I1 L fo fn ff rm gd (fun A outer s H E r2 g2 => hbody A outer s H E f c' r2 g2) hN hv hd hcd) hco (h H1 eN T1)
    exact ⟨tt, h1.nox, h2⟩
  · cases out with
    | error e => exact (show False from ho).elim
    | ok fl =>
      cases fl with
      | ret u => exact I1.after ho
      | next => exact False.elim ho
      | brk => exact False.elim ho
      | cont => exact False.elim ho
end
end KG

set_option Elab.async false
set_option linter.all false
set_option maxRecDepth 100000
set_option maxHeartbeats 1000000
/-! KT: the end of a law over promises where nothing is shown, the tables of code objects of its defs known. -/
namespace KG
open PySem PySem.Spec PySem.Calls PyProof.Rows L2 LamX

/-- the abstract heap at the start: the tables, the script -/
def H0 (K : PySem.W.Frag) (T : List Addr) (a : Addr) (vs : List Value) (ns : List Int) : Hp := fun b =>
  if b ∈ T then some (.tbl #[]) else if b = a ∧ K.lookup a = none then some (.frz { cls := .type "list", data := .seq vs.toArray } (.lst (ns.map V.int))) else none
section
variable {K : PySem.W.Frag} {T : List Addr} {a : Addr} {vs : List Value} {ns : List Int}
theorem H0_tab {b : Addr} (h : b ∈ T) : H0 K T a vs ns b = some (.tbl #[]) := if_pos h
theorem H0_a (h : a ∉ T) (hk : K.lookup a = none) : H0 K T a vs ns a = some (.frz { cls := .type "list", data := .seq vs.toArray } (.lst (ns.map V.int))) := (if_neg h).trans (if_pos ⟨rfl, hk⟩)
theorem H0_some {b : Addr} {u : HO} (h : H0 K T a vs ns b = some u) : (b ∈ T ∧ u = .tbl #[]) ∨ (b ∉ T ∧ b = a ∧ K.lookup a = none ∧ u = .frz { cls := .type "list", data := .seq vs.toArray } (.lst (ns.map V.int))) := by
  by_cases h1 : b ∈ T
  · rw [H0_tab h1] at h
    exact .inl ⟨h1, (Option.some.inj h).symm⟩
  · by_cases h2 : b = a ∧ K.lookup a = none
    · have e := ((if_neg h1).trans (if_pos h2)).symm.trans h
      exact .inr ⟨h1, h2.1, h2.2, (Option.some.inj e).symm⟩
    · have e := ((if_neg h1).trans (if_neg h2)).symm.trans h
      cases e
end

theorem law_gdT {P : Program} {w : World} {K : PySem.W.Frag} {mg mb : Str → Option Value} {CX : CXT} {k : Nat} {fa a : Addr} {cs : List (Addr × Addr)} {fd : FuncData} {x : Str} {sp : Sp} {s1 : Shared} {vs : List Value} {ns : List Int}
    (kin : K.In s1.heap) (nsm : s1.heap.Ns mainGlobals mg) (nsb : s1.heap.Ns builtinsNs mb) (mbb : ∀ x : Str, x ≠ "__name__" → mb x = bootBuiltins x) (lim : s1.heap.NoLimit) (nog : s1.gens = #[])
    (tab : ∀ p ∈ cs, s1.heap.get? p.2 = some { cls := .none, data := .fields #[] }) (notK : ∀ p ∈ cs, K.lookup p.2 = none) (code : ∀ p ∈ cs, PySem.W.CodeHd s1.heap p.1 p.2)
    (bmain : ∃ (bm : Addr) (ob : Obj), mg "__builtins__" = some (.ref bm) ∧ bm ≠ builtinsNs ∧ s1.heap.get? bm = some ob ∧ ob.cls = .type "module" ∧ ob.dict = some builtinsNs ∧ ob.data = .plain)
    (atA : s1.heap.get? a = some { cls := .type "list", data := .seq vs.toArray }) (isn : IntsAre vs ns) (small : ns.length ≤ sizeLine) (rm : Room k callerA)
    (F : ∀ base : Heap, K.In base → base.Ns mainGlobals mg → (∀ p ∈ cs, TabB base mg p.1 p.2) → Gd P w K mg base CX k fa fd [x] sp) (bt : ∀ (s : Shared) (u : Value), BindsTo s fd ⟨[u], []⟩ [(x, u)])
    (start_ : ∀ H : Hp, (∀ p ∈ cs, H p.2 = some (.tbl #[])) → SqL K H a (ns.map V.int) → sp [.ref a] H (fun v _ => v = .bl true) fun _ _ _ => False)
    (quiet : ∀ H e s', CX [] H s1 (fun _ _ _ => False) e s' → False) :
    codeAny (model P w) callerA (.call (.ref fa) ⟨[.ref a], []⟩) (fun r s' => r = .ok (.ret (.bool true)) ∧ OldK s1.heap s'.heap ∧ s'.os = s1.os ∧ AllBare s'.gens) s1 := by
  have rv := vals_ints isn
  have inT : ∀ p ∈ cs, p.2 ∈ cs.map (·.2) := fun p hp => List.mem_map_of_mem hp
  have ofT : ∀ b ∈ cs.map (·.2), ∃ p ∈ cs, p.2 = b := fun b hb => List.mem_map.mp hb
  have emp : ∀ b ∈ cs.map (·.2), s1.heap.get? b = some { cls := .none, data := .fields #[] } := fun b hb => by
    obtain ⟨p, hp, e⟩ := ofT b hb
    exact e ▸ tab p hp
  have aT : a ∉ cs.map (·.2) := fun z => by
    have y := emp a z
    rw [atA] at y
    exact nomatch congrArg Obj.data (Option.some.inj y)
  -- what is no table and no list is not tracked
  have plain : ∀ {b : Addr} {o : Obj}, s1.heap.get? b = some o → o.data ≠ .fields #[] → (∀ its n, o.data ≠ .seq its n) → H0 K (cs.map (·.2)) a vs ns b = none := fun {b o} e n1 n2 => by
    cases z : H0 K (cs.map (·.2)) a vs ns b with
    | none => rfl
    | some u =>
      rcases H0_some z with ⟨y, _⟩ | ⟨_, y, _⟩
      · rw [emp b y] at e
        cases e
        exact (n1 rfl).elim
      · rw [y, atA] at e
        cases e
        exact (n2 _ _ rfl).elim
  have ofK : ∀ {b : Addr} {o : Obj}, K.lookup b = some o → H0 K (cs.map (·.2)) a vs ns b = none := fun {b o} e => by
    cases z : H0 K (cs.map (·.2)) a vs ns b with
    | none => rfl
    | some u =>
      rcases H0_some z with ⟨y, _⟩ | ⟨_, y, n, _⟩
      · obtain ⟨p, hp, ep⟩ := ofT b y
        rw [← ep, notK p hp] at e
        cases e
      · rw [y, n] at e
        cases e
  have hok : HOk P w (H0 K (cs.map (·.2)) a vs ns) s1.heap := fun b u z => by
    rcases H0_some z with ⟨y, rfl⟩ | ⟨_, rfl, _, rfl⟩
    · exact emp b y
    · exact ⟨atA, by rw [List.length_map]; exact small, vs, _, rv, atA⟩
  have sq : SqL K (H0 K (cs.map (·.2)) a vs ns) a (ns.map V.int) := by
    cases hk : K.lookup a with
    | some o =>
      have e := kin a o hk
      rw [atA] at e
      cases e
      exact .inr ⟨_, vs.toArray, _, hk, rfl, rfl, rfl, by rw [List.size_toArray, isn.length]; exact small, by simpa using rv⟩
    | none => exact .inl (.inr ⟨_, H0_a aT hk⟩)
  have keepN : ∀ {b : Addr} {m : Str → Option Value}, s1.heap.Ns b m → (hidT s1.heap (H0 K (cs.map (·.2)) a vs ns)).Ns b m := fun {b m} ⟨o, es, ep, e, d, r⟩ =>
    ⟨o, es, ep, hidT_get e (plain e (by rw [d]; exact nofun) (by rw [d]; exact nofun)), d, r⟩
  have kinH : K.In (hidT s1.heap (H0 K (cs.map (·.2)) a vs ns)) := fun b o e => hidT_get (kin b o e) (ofK e)
  have mod : Mod K mg (hidT s1.heap (H0 K (cs.map (·.2)) a vs ns)) := ⟨kinH, keepN nsm, ⟨mb, keepN nsb, mbb⟩, lim.elim fun mc h => ⟨mc, keepN h.1, h.2⟩⟩
  have tb : ∀ p ∈ cs, TabB (hidT s1.heap (H0 K (cs.map (·.2)) a vs ns)) mg p.1 p.2 := fun p hp => by
    obtain ⟨o, us, file, tf, flags, tg, inF, text, tt, e1, r1, r2, r3, rr⟩ := code p hp
    obtain ⟨bm, ob, b1, b2, b3, b4, b5, b6⟩ := bmain
    have other : ∀ {q : Addr}, q ≠ bm → True := fun _ => trivial
    refine ⟨⟨o, us, file, tf, flags, tg, inF, text, tt, hidT_get e1 (plain e1 (fun z => ?_) (by rw [r2]; exact nofun)), r1, r2, r3, rr⟩, ⟨bm, ob, b1, b2, fun z => ?_, fun z => ?_, hidT_get b3 (plain b3 (by rw [b6]; exact nofun) (by rw [b6]; exact nofun)), b4, b5, b6⟩, fun z => ?_⟩
    · rw [r2] at z
      cases z
      simp at r3
    · obtain ⟨oM, _, _, eM, dM, _⟩ := nsm
      rw [z, eM] at b3
      cases b3
      rw [b6] at dM
      cases dM
    · rw [z, tab p hp] at b3
      cases b3
      cases b6
    · obtain ⟨oM, _, _, eM, dM, _⟩ := nsm
      rw [z, tab p hp] at eM
      cases eM
      cases dM
  have e0 : Env0 P w K mg (hidT s1.heap (H0 K (cs.map (·.2)) a vs ns)) callerA [] s1 (H0 K (cs.map (·.2)) a vs ns) := ⟨rfl, mod, fun b o e => of_hidT e, Nat.le_of_eq (hidT_size _ _), trivial, fun b hb => absurd (show b ∈ ([] : List Addr) from hb) List.not_mem_nil, hok, .of_eq nog⟩
  refine codeAny_mono ((F _ kinH (keepN nsm) tb).go callerA [] s1 _ ⟨[.ref a], []⟩ [.ref a] [.ref a] _ _ rm rfl e0 (bt s1 (.ref a)) (.cons rfl .nil) (start_ _ (fun p hp => H0_tab (inT p hp)) sq)) fun r s' h => ?_
  match r, h with
  | .error e, h => exact (quiet _ e s' h).elim
  | .ok (.ret u), h =>
    obtain ⟨v, H', os, bare, un, hok', r', q⟩ := h
    have q' : v = .bl true := q
    subst q'
    obtain rfl : u = Value.bool true := r'
    have same : ∀ b o, b ∉ cs.map (·.2) → s1.heap.get? b = some o → s'.heap.get? b = some o := fun b o nb e => by
      cases z : H0 K (cs.map (·.2)) a vs ns b with
      | none => exact un.keep b o e z (by intro y; cases y) (by simp)
      | some t =>
        rcases H0_some z with ⟨y, _⟩ | ⟨_, _, _, rfl⟩
        · exact (nb y).elim
        · obtain ⟨g1, _⟩ := hok b _ z
          obtain ⟨g2, _⟩ := hok' b _ (un.frzs b _ _ z)
          rw [e] at g1
          cases g1
          exact g2
    have grown : ∀ p ∈ cs, ∃ more : Array Value, s'.heap.get? p.2 = some { cls := .none, data := .fields more } := fun p hp => by
      obtain ⟨more, z⟩ := un.tbls p.2 #[] (H0_tab (inT p hp))
      exact ⟨_, hok' p.2 _ z⟩
    refine ⟨rfl, ⟨fun b o e => ?_, fun b o e => ?_⟩, os, bare⟩
    · by_cases hb : b ∈ cs.map (·.2)
      · obtain ⟨p, hp, ep⟩ := ofT b hb
        obtain ⟨more, hm⟩ := grown p hp
        subst ep
        rw [tab p hp] at e
        cases e
        exact .inr (.inl ⟨((code p hp).tab (tab p hp)).isCodeTable, rfl, #[], more, rfl, by rw [Array.empty_append]; exact hm⟩)
      · exact .inl (same b o hb e)
    · by_cases hb : b ∈ cs.map (·.2)
      · obtain ⟨p, hp, ep⟩ := ofT b hb
        obtain ⟨more, hm⟩ := grown p hp
        exact ⟨_, ep ▸ hm⟩
      · exact ⟨o, same b o hb e⟩

/-- what the start tells of the tables of the top's defs -/
abbrev Tabs0 (q : Program) (mg : Str → Option Value) (h : Heap) : Prop :=
  ∀ d ∈ recsOf q, ∃ (a : Addr) (o : Obj) (fd : FuncData) (c P : Addr), mg d.name = some (.ref a) ∧ h.get? a = some o ∧ o.data = .func fd ∧ fd.code = .ref c ∧ h.IsCode c P #[] ∧ h.TableAt c P #[]
/-- .. of one def that the written part knows: its code object c, the table at P -/
theorem tab0 {q : Program} {K : PySem.W.Frag} {mg : Str → Option Value} {h : Heap} {x : Str} {f c P : Addr} {oc : Value} {od : Option Addr} {fd : FuncData} {sl : Array (Option Value)} (X : K.In h) (t : Tabs0 q mg h) (hr : ((recsOf q).any fun d => d.name == x) = true) (hm : mg x = some (.ref f))
    (lk : K.lookup f = some ⟨oc, od, .func fd, sl⟩) (hc : fd.code = .ref c) (hP : PySem.W.codeHdIn K c P = true) : h.get? P = some { cls := .none, data := .fields #[] } ∧ PySem.W.CodeHd h c P := by
  obtain ⟨d, hd, e⟩ := List.any_eq_true.mp hr
  obtain ⟨a', o', fd', c', P', h1, h2, h3, h4, h5, h6⟩ := t d hd
  rw [beq_iff_eq.mp e, hm] at h1
  cases h1
  rw [X _ _ lk] at h2
  cases h2
  cases h3
  rw [hc] at h4
  cases h4
  have hd1 := PySem.W.codeHd_of_K X hP
  obtain ⟨o, us, file, tf, flags, tg, inF, text, tt, e1, r1, r2, r3, rr⟩ := id hd1
  obtain ⟨⟨oc2, vc, g1, g2, g3, g4⟩, g5⟩ := h6
  rw [e1] at g1
  cases g1
  rw [r2] at g3
  cases g3
  rw [r3] at g4
  cases g4
  exact ⟨g5, hd1⟩
theorem walk_gdT {l : PySem.W.OpenLaw} {n k : Nat} {q : Program} {loose : List Str} {XP : (Str → Option Value) → Heap → Prop} {YP : World → Heap → Prop} {d : DefRec} {K : Params → PySem.W.Frag} {CX : CXT} {x : Str}
    (most : l.most = some n) (n2 : n ≤ sizeLine) (nod : d.params.defaults = []) (rm : Room k callerA)
    (hY : ∀ (w : World) (h : Heap), YP w h → (K w.params).In h)
    (F : ∀ (w : World) (mg : Str → Option Value) (fa : Addr) (h : Heap), YP w h → (K w.params).In h → h.Ns mainGlobals mg → mg d.name = some (.ref fa) → Tabs0 q mg h →
      ∃ (fd : FuncData) (cs : List (Addr × Addr)) (sp : Sp), (∀ p ∈ cs, h.get? p.2 = some { cls := .none, data := .fields #[] }) ∧ (∀ p ∈ cs, (K w.params).lookup p.2 = none) ∧ (∀ p ∈ cs, PySem.W.CodeHd h p.1 p.2) ∧ (∀ (s : Shared) (u : Value), BindsTo s fd ⟨[u], []⟩ [(x, u)]) ∧
        (∀ (H : Hp) (a : Addr) (ns : List Int), ns.length ≤ n → (∀ z ∈ ns, Builtin.Int.intBits z ≤ 1048576) → (∀ p ∈ cs, H p.2 = some (.tbl #[])) → SqL (K w.params) H a (ns.map V.int) → sp [.ref a] H (fun v _ => v = .bl true) fun _ _ _ => False) ∧
        ∀ base : Heap, (K w.params).In base → base.Ns mainGlobals mg → (∀ p ∈ cs, TabB base mg p.1 p.2) → Gd l.prog w (K w.params) mg base CX k fa fd [x] sp)
    (quiet : ∀ (H : Hp) (s : Shared) (e : Value) (s' : Shared), CX [] H s (fun _ _ _ => False) e s' → False) :
    PySem.W.WalkO q loose XP YP l.row.toRowW d [] (fun f vs => PySem.call f vs) := by
  refine Att.attach_callB most nod fun w s0 s1 mg mb fa o pm cd doc a vs ns G Y ho hd hcd hmg hobj hints hlen hbits hg => ?_
  have kin := hY w _ Y
  obtain ⟨fd, cs, sp, t1, t2, t3, hb, st, hF⟩ := F w mg fa _ Y kin G.T.g hmg G.T.tab
  exact law_gdT kin G.T.g G.T.b G.T.builtins G.T.nolimit hg t1 t2 t3 G.T.bmain hobj hints (Nat.le_trans hlen n2) rm hF hb (fun H h1 h2 => st H a ns hlen hbits h1 h2) fun H e s' => quiet H s1 e s'
end KG

set_option Elab.async false
set_option linter.all false
set_option maxRecDepth 100000
set_option maxHeartbeats 1000000
/-! KA: data of any kind, {} among them: repr, in a tuple of the written part. -/
namespace KG
open PySem PySem.Spec PySem.Calls PyProof.Rows L2

/-- x is the data d -/
def Da (H : Hp) (x : V) (d : PyData) : Prop := ∀ (X : Cx) (pins : List (Addr × Obj)) (σ : L2.St) (s : Shared) (u : Value), Inv X pins σ H s → RelV x u → ∃ as, Reads s.heap u d as
/-- .. none of its lists and dicts the table of modules -/
def Dn (H : Hp) (x : V) (d : PyData) : Prop := ∀ (X : Cx) (pins : List (Addr × Obj)) (σ : L2.St) (s : Shared) (u : Value), Inv X pins σ H s → RelV x u → ∃ as, Reads s.heap u d as ∧ sysModules ∉ as
inductive DaAll (H : Hp) : List V → List PyData → Prop
  | nil : DaAll H [] []
  | cons {x : V} {xs : List V} {d : PyData} {ds : List PyData} : Da H x d → DaAll H xs ds → DaAll H (x :: xs) (d :: ds)
section
variable {H : Hp} {x : V} {d : PyData}
theorem Dn.da (h : Dn H x d) : Da H x d := fun X pins σ s u I r => by
  obtain ⟨as, a, _⟩ := h X pins σ s u I r
  exact ⟨as, a⟩
theorem Dn.str (z : Str) : Dn H (.str z) (.str z) := fun X pins σ s u I r => by obtain ⟨t, rfl⟩ := r; exact ⟨[], .str z t, List.not_mem_nil⟩
theorem Da.non : Da H .non .none := fun X pins σ s u I r => by cases r; exact ⟨[], .none⟩
theorem Da.bl (b : Bool) : Da H (.bl b) (.bool b) := fun X pins σ s u I r => by cases r; exact ⟨[], .bool b⟩
theorem Da.int (i : Int) : Da H (.int i) (.int i) := fun X pins σ s u I r => by obtain ⟨t, rfl⟩ := r; exact ⟨[], .int i t⟩
theorem Da.str (z : Str) : Da H (.str z) (.str z) := (Dn.str z).da
theorem DaAll.reads : ∀ {xs : List V} {ds : List PyData} (_ : DaAll H xs ds) {X : Cx} {pins : List (Addr × Obj)} {σ : L2.St} {s : Shared} {us : List Value} (_ : Inv X pins σ H s) (_ : Vals xs us), ∃ as, ReadsAll s.heap us ds as
  | _, _, .nil, _, _, _, _, _, _, .nil => ⟨[], .nil⟩
  | _, _, .cons a t, X, pins, σ, s, _, I, .cons r rt => by
    obtain ⟨as, h1⟩ := a X pins σ s _ I r
    obtain ⟨bs, h3⟩ := t.reads I rt
    exact ⟨as ++ bs, .cons h1 h3⟩
theorem Da.lst {a : Addr} {xs : List V} {ds : List PyData} (h : H a = some (.lst xs)) (t : DaAll H xs ds) : Da H (.ref a) (.list ds) := fun X pins σ s u I r => by
  obtain rfl : u = Value.ref a := r
  obtain ⟨_, its, n, rv, ho⟩ := I.hok a _ h
  obtain ⟨as, h1⟩ := t.reads I rv
  exact ⟨a :: as, .list ho rfl rfl (by simpa using h1)⟩
theorem Da.tup {a : Addr} {xs : List V} {ds : List PyData} (h : H a = some (.tup xs)) (t : DaAll H xs ds) : Da H (.ref a) (.tuple ds) := fun X pins σ s u I r => by
  obtain rfl : u = Value.ref a := r
  obtain ⟨_, its, rv, ⟨o, ho, hc, n, hd⟩⟩ := I.hok a _ h
  obtain ⟨as, h1⟩ := t.reads I rv
  exact ⟨as, .tuple ho hc hd (by simpa using h1)⟩
/-- a list of two, beside the table of modules -/
theorem Dn.two {a : Addr} {z : Str} (h : H a = some (.lst [.str z, x])) (na : a ≠ sysModules) (t : Dn H x d) : Dn H (.ref a) (.list [.str z, d]) := fun X pins σ s u I r => by
  obtain rfl : u = Value.ref a := r
  obtain ⟨_, its, n, rv, ho⟩ := I.hok a _ h
  cases rv with
  | cons r1 rt =>
    obtain ⟨k, rfl⟩ := r1
    cases rt with
    | cons r2 rt =>
      cases rt
      obtain ⟨as, h1, h2⟩ := t X pins σ s _ I r2
      refine ⟨a :: ([] ++ (as ++ [])), .list ho rfl rfl (.cons (.str z k) (.cons h1 .nil)), fun hm => ?_⟩
      rcases List.mem_cons.mp hm with e | e
      · exact na e.symm
      · simp at e
        exact h2 e
theorem Dn.dict0 {a : Addr} (h : H a = some (.dK [])) : Dn H (.ref a) (.dict []) := fun X pins σ s u I r => by
  obtain rfl : u = Value.ref a := r
  obtain ⟨_, ns, vs, kv, ob, es, ep, ho, hx, hd, _, hp, _⟩ := I.hok a _ h
  cases kv
  have e : es.toList = [] := by
    cases z : es.toList with
    | nil => rfl
    | cons y ys =>
      rw [z] at hp
      cases hp
  refine ⟨[a], .dict (kvs := []) (as := []) (bs := []) ho hx.1 hd (by rw [e]; exact .nil) (by rw [e]; exact .nil), fun hb => ?_⟩
  rw [← List.mem_singleton.mp hb] at ns
  simp at ns
theorem Da.dict0 {a : Addr} (h : H a = some (.dK [])) : Da H (.ref a) (.dict []) := (Dn.dict0 h).da
end

section
variable {X : Cx}
/-- repr(x), x any data -/
def rReprA : List V → Hp → VK → Prop := fun xs H Q => ∃ x d, xs = [x] ∧ Da H x d ∧ (d.hasDict = true → Dn H x d) ∧ d.showable = true ∧ d.depth ≤ 40 ∧ d.shown.length ≤ sizeLine ∧ Q (.str d.shown) H
theorem call_reprA {k : Nat} (rm : Room k X.A) (gd : X.A.guards = some []) : CallR X (.builtin "repr") rReprA := by
  intro pins s σ H xs us Q I r h
  obtain ⟨x, d, rfl, hd, hn, sh, dp, sz, q⟩ := h
  obtain ⟨u, rfl, r1⟩ := vals1 r
  have rdn : ∃ as, Reads s.heap u d as ∧ (d.hasDict = true → sysModules ∉ as) := by
    cases z : d.hasDict with
    | false =>
      obtain ⟨as, rd⟩ := hd X pins σ s u I r1
      exact ⟨as, rd, nofun⟩
    | true =>
      obtain ⟨as, rd, n⟩ := hn z X pins σ s u I r1
      exact ⟨as, rd, fun _ => n⟩
  obtain ⟨as, rd, ha⟩ := rdn
  have room := rm.units
  have fin : ∀ (s' : Shared) (tk : Tok), Inv X pins σ H s' → EP X pins σ Q (.str d.shown tk) s' := fun s' tk J => ⟨.str d.shown, H, J, ⟨tk, rfl⟩, q⟩
  have intsz : ∀ i : Int, d = .int i → i.natAbs.log2 < 1920 := fun i e => by
    subst e
    simpa [PyData.showable] using sh
  have big : ∀ {a : Addr}, u = .ref a → wpAny (model X.prog X.w) X.A (call (.builtin "repr") [u]) (EP X pins σ Q) X.xe s := fun {a} e => by
    subst e
    exact repr_of_reads' rd sh ha gd (by omega) (fun _ _ z => z) (fun h' u tk keep => fin _ _ (I.kept (t' := tk) keep)) sz
  cases rd with
  | none =>
    rw [PyData.shown_none] at q
    exact PySem.P.repr_of_none ⟨.str _, H, I.tok _, ⟨_, rfl⟩, q⟩
  | bool b =>
    rw [PyData.shown_bool] at q
    exact PySem.P.repr_of_bool ⟨.str _, H, I.tok _, ⟨_, rfl⟩, by cases b <;> exact q⟩
  | int i t =>
    rw [PyData.shown_int] at q
    exact PySem.P.repr_of_int (intsz i rfl) ⟨.str _, H, I.tok _, ⟨_, rfl⟩, q⟩
  | str z t =>
    rw [PyData.shown_str] at q sz
    exact PySem.P.repr_of_str ⟨.str _, H, I.tok _, ⟨_, rfl⟩, q⟩ sz
  | list h1 h2 h3 h4 => exact big rfl
  | tuple h1 h2 h3 h4 => exact big rfl
  | dict h1 h2 h3 h4 h5 => exact big rfl
/-- x not in t, t a tuple of texts of the written part, x any data -/
def rNotInA (K : PySem.W.Frag) : R2 := fun x y H Q => ∃ (p : Addr) (d : PyData) (zs : List Str), y = .ref p ∧ Da H x d ∧ d.canLay0 = true ∧ d.depth ≤ 40 ∧ KTup K p (zs.map V.str) ∧ zs.all PyData.strOk = true ∧ Q (.bl (!(zs.any fun z => PyData.eqv (.str z) d))) H
theorem strs_reads {h : Heap} : ∀ {zs : List Str} {us : List Value}, Vals (zs.map V.str) us → ReadsAll h us (zs.map PyData.str) []
  | [], _, .nil => .nil
  | z :: zs, _, .cons r t => by
    obtain ⟨k, rfl⟩ := r
    exact .cons (as := []) (bs := []) (.str z k) (strs_reads t)
theorem strs_lay : ∀ {zs : List Str}, zs.all PyData.strOk = true → PyData.canLayAll0 (zs.map PyData.str) = true
  | [], _ => by simp [PyData.canLayAll0]
  | z :: zs, h => by
    rw [List.all_cons, Bool.and_eq_true] at h
    simp [PyData.canLayAll0, PyData.canLay0, strs_lay h.2, h.1]
theorem op_notInA {k : Nat} (rm : Room k X.A) : OpR X (compareOp .NotIn) (rNotInA X.K) := by
  intro pins s σ H x y v u Q I rx ry h
  obtain ⟨p, d, zs, rfl, hd, lay, dp, ⟨o, its, n, lk, hc, hdt, _, rv⟩, zok, q⟩ := h
  obtain rfl : u = Value.ref p := ry
  obtain ⟨as, rd⟩ := hd X pins σ s v I rx
  have room := rm.units
  refine SeqAt.notIn_tuple_reads (.tuple (I.kIn _ _ lk) hc hdt (strs_reads rv)) rd (strs_lay zok) lay (Nat.lt_of_le_of_lt (Nat.add_le_add_left (Nat.min_le_right _ _) _) (by omega)) ⟨.bl _, H, I, rfl, ?_⟩
  rw [List.any_map]
  exact q
end
end KG

set_option Elab.async false
set_option linter.all false
set_option maxRecDepth 100000
set_option maxHeartbeats 1000000
/-! KV: list.count of flat items; what a caught error of a known class answers. -/
namespace KG
open PySem PySem.Spec PySem.Calls PyProof.Rows L2
section
variable {X : Cx}
def rCountF (K : PySem.W.Frag) : V → List V → Hp → VK → Prop := fun x xs H Q => ∃ (p : Addr) (ys : List V) (y : V), x = .ref p ∧ xs = [y] ∧ SqL K H p ys ∧ flatV y = true ∧ ys.all flatV = true ∧ Q (.int (ys.countP fun z => eqV z y : Nat)) H
theorem count_eqU {x : V} : ∀ {xs : List V} {us : List Value}, Vals xs us → xs.all flatV = true → us.countP (eqU x) = xs.countP fun y => eqV y x
  | _, _, .nil, _ => rfl
  | y :: xs, u :: us, .cons r t, f => by
    rw [List.all_cons, Bool.and_eq_true] at f
    rw [List.countP_cons, List.countP_cons, eqU_of r f.1, count_eqU t f.2]
theorem mt_countF : MtR X "list.count" (rCountF X.K) := by
  intro pins s σ H x xs v us Q I rx rxs h
  obtain ⟨p, ys, y, rfl, rfl, hs, fy, fys, q⟩ := h
  cases rx
  obtain ⟨u, rfl, ru⟩ := vals1 rxs
  obtain ⟨its, rv, ⟨⟨cls, dd, data, sl⟩, n, ho, hc, hdn, hd⟩, hlen⟩ := I.list hs
  simp only at hc hd
  subst hc hd
  refine call_meets PySem.F.slot_list_count ⟨_, ho, rfl⟩ PySem.F.entry_list_count (PySem.F.args_list_count_2 _ _)
    (SeqAt.list_countAt p its.toArray n dd sl u (eqU y)) ⟨ho, fun u' hu' => mem_eqAt ru fy rv fys u' (by simpa using hu'), ?_⟩
  refine ⟨.int (ys.countP fun z => eqV z y : Nat), H, I.tok _, ⟨s.toks, ?_⟩, q⟩
  show Value.int ((its.toArray.toList.countP (eqU y) : Nat) : Int) s.toks = _
  rw [show its.toArray.toList = its from rfl, count_eqU rv fys]
end
/-- a list display, its place beside the table of modules -/
def NewB (Q : VK) (xs : List V) (H : Hp) : Prop := xs.length ≤ sizeLine ∧ ∀ p, H p = none → p ≠ sysModules → Q (.ref p) (upd H p (.lst xs))
def tLstB (t : TA) : TE := fun σ H Q => t σ H fun xs H1 => NewB Q xs H1
theorem pe_lstB {X : Cx} {es : List Expr} {t : TA} {pos : Pos} (h : PA X es t) : PE X (.List es pos) (tLstB t) := by
  refine ⟨fun pins s σ H Q I hq => wpAny_List_spliced (thn (h.run pos pins s σ H _ I hq) fun us s1 ⟨xs, H1, I1, r, z, q⟩ => ⟨by rw [← r.length]; exact z, ?_⟩)⟩
  exact ⟨.ref s1.heap.objs.size, _, I1.laid (t' := s1.toks) (o := .lst xs) (fun b u e => Heap.get?_push_of_some _ e) (Nat.le_refl _) ⟨z, us, 0, r, Heap.get?_push_size _ rfl⟩, rfl, q _ (I1.hok.fresh (Nat.le_refl _)) (Nat.ne_of_gt I1.big)⟩
theorem w_lstB {σ : L2.St} {H : Hp} {Q : VK} {t : TA} (q : t σ H fun xs H1 => NewB Q xs H1) : tLstB t σ H Q := q
theorem newB {xs : List V} {H : Hp} {Q : VK} (l : xs.length ≤ sizeLine) (q : ∀ (p : Addr) (H' : Hp), H p = none → p ≠ sysModules → H' p = some (.lst xs) → Same H H' → Q (.ref p) H') : NewB Q xs H :=
  ⟨l, fun p np ns => q p _ np ns upd_same fun b u e => by rw [upd_ne (ne_of_none e np)]; exact e⟩
/-! ### steps -/
section
variable {σ : L2.St} {H : Hp} {Q : VK} {K : PySem.W.Frag}
/-- isinstance of a known error, its class and dict in the heap H -/
theorem w_isE {a D dd : Addr} {fs : List (Str × V)} {c : V} {cv : Value} {b : Bool} (ha : H a = some (ErrO (.ref D) (some dd) a)) (hd : H dd = some (.xd fs)) (C : ExcC K D) (hc : ∀ u, RelV c u → u = cv) (e : PySem.W.kitOne K (.ref D) cv = some b) (q : Q (.bl b) H) : rIsErr K [.ref a, c] H Q :=
  ⟨a, D, dd, fs, c, cv, b, rfl, ha, hd, C, hc, e, q⟩
theorem w_cat {l b : Addr} {xs zs ys : List V} (h1 : H l = some (.lst xs)) (h2 : H b = some (.lst zs)) (e : xs ++ zs = ys) (z : ys.length ≤ sizeLine) (q : ∀ (p : Addr) (H' : Hp), H p = none → H' p = some (.lst ys) → Same H H' → Q (.ref p) H') : rCat (.ref l) (.ref b) H Q :=
  ⟨l, b, xs, zs, rfl, rfl, h1, h2, by rw [← List.length_append, e]; exact z, fun p np => q p _ np (by rw [e]; exact upd_same) fun b u e => by rw [upd_ne (ne_of_none e np)]; exact e⟩
theorem w_bm {T : String} {r : V → List V → Hp → VK → Prop} {to : TE} {t : TA} (q : to σ H fun x H1 => tyV K T x H1 ∧ t σ H1 fun xs H2 => r x xs H2 Q) : tBM K T r to t σ H Q := q
theorem ty_list {p : Addr} {xs : List V} (h : H p = some (.lst xs)) : tyV K "list" (.ref p) H := .inl ⟨rfl, xs, SqL.of h⟩
theorem w_app {p : Addr} {xs ys : List V} {y : V} (h : H p = some (.lst xs)) (z : xs.length < sizeLine) (e : xs ++ [y] = ys) (q : ∀ H' : Hp, H' p = some (.lst ys) → (∀ b, b ≠ p → H' b = H b) → Q .non H') : rAppend (.ref p) [y] H Q :=
  ⟨p, xs, y, rfl, rfl, h, z, q _ (by rw [e]; exact upd_same) fun b nb => upd_ne nb⟩
theorem w_count {p : Addr} {ys : List V} {y : V} {n : Nat} (h : H p = some (.lst ys)) (f : flatV y = true) (fs : ys.all flatV = true) (e : (ys.countP fun z => eqV z y) = n) (q : Q (.int (n : Nat)) H) : rCountF K (.ref p) [y] H Q :=
  ⟨p, ys, y, rfl, rfl, SqL.of h, f, fs, by rw [e]; exact q⟩
theorem w_errf {te : TE} {f : Str} (q : te σ H fun x H1 => ∃ (a C dd : Addr) (fs : List (Str × V)) (v : V), x = .ref a ∧ H1 a = some (ErrO (.ref C) (some dd) a) ∧ H1 dd = some (.xd fs) ∧ XfC K C ∧ PySem.W.findIn K (.ref C) f = some none ∧ fs.lookup f = some v ∧ Q v H1) : tErrF K te f σ H Q := q
end
end KG

set_option Elab.async false
set_option linter.all false
set_option maxRecDepth 100000
set_option maxHeartbeats 1000000
/-! KW: methods that may raise; own errors by their def. -/
namespace KG
open PySem PySem.Spec PySem.Calls PyProof.Rows L2
section
variable {P : Program} {w : World} {K : PySem.W.Frag} {mg : Str → Option Value} {base : Heap} {k : Nat} {x m qual : Str} {st : Stmt} {ps N : List Str} {sp : Sp} {C f : Addr}
theorem MetAt.gdx (D : MetAt K C m qual st ps f) (sc : FnScope N ps (defScope st)) (len : ∀ vs H Q E, sp vs H Q E → vs.length = ps.length)
    (inner : ∀ (cdv : Value) (A : Around) (outer : List Env) (s : Shared) (H : Hp) (vs : List V) (Q : VK) (E : XK),
      Room k (A.deeper (envOfC qual (defScope st) s.heap.objs.size f cdv)) → (A.deeper (envOfC qual (defScope st) s.heap.objs.size f cdv)).guards = some [] → sp vs H Q E →
      ∃ t, PSs (cxOf (L2.CX P w) P w K mg base N qual (defScope st) f cdv A outer s H E) (defBody st) t ∧ t { nx := fun _ H' => Q .non H', rt := Q } (start N vs) H) :
    ∃ fd, Meth K C m f ∧ Fun K m qual st f fd ∧ Binds K fd ps [] ∧ Gd P w K mg base (L2.CX P w) (k + 1) f fd ps sp := by
  obtain ⟨fd, a, F, b⟩ := D.ex
  exact ⟨fd, a, F, b, gdX F sc len inner⟩
end
/-- what a def that may raise lets out -/
theorem takes_cx {P : Program} {w : World} {K : PySem.W.Frag} {mg : Str → Option Value} {base : Heap} {N : List Str} {qual : Str} {sc : Scope} {f : Addr} {cd : Value} {A : Around} {outer : List Env} {s : Shared} {H : Hp} {E : XK} :
    Takes (cxOf (L2.CX P w) P w K mg base N qual sc f cd A outer s H E) (fun cls d _ H => E cls d H) := takes_of rfl rfl rfl rfl
theorem own_cx {P : Program} {w : World} {K : PySem.W.Frag} {mg : Str → Option Value} {base : Heap} {N : List Str} {qual : Str} {sc : Scope} {f : Addr} {cd : Value} {A : Around} {outer : List Env} {s : Shared} {H : Hp} {E : XK} :
    PassesOwn (model P w) (cxOf (L2.CX P w) P w K mg base N qual sc f cd A outer s H E).A (cxOf (L2.CX P w) P w K mg base N qual sc f cd A outer s H E).env (cxOf (L2.CX P w) P w K mg base N qual sc f cd A outer s H E).xe := passes_of rfl
/-- .. the lambda's frame -/
theorem takes_lam {X : Cx} {A : Around} {outer : List Env} {s : Shared} {H : Hp} {E : XK} {scope : Scope} {f c' : Addr} : Takes (LamX.lamCx X A outer s H E scope f c') (fun cls d _ H => E cls d H) := takes_of rfl rfl rfl rfl
theorem pass_lam {X : Cx} {A : Around} {outer : List Env} {s : Shared} {H : Hp} {E : XK} {scope : Scope} {f c' : Addr} : Passes (L2.CX X.prog X.w) (LamX.lamCx X A outer s H E scope f c') E := passes_call takes_lam fun _ _ _ _ h => h
theorem pass_cx {P : Program} {w : World} {K : PySem.W.Frag} {mg : Str → Option Value} {base : Heap} {N : List Str} {qual : Str} {sc : Scope} {f : Addr} {cd : Value} {A : Around} {outer : List Env} {s : Shared} {H : Hp} {E : XK} :
    Passes (L2.CX P w) (cxOf (L2.CX P w) P w K mg base N qual sc f cd A outer s H E) E := passes_call takes_cx fun _ _ _ _ h => h
/-- the def st is an error's __init__ of two lines -/
def ErrX (st : Stmt) (qual pv fld : Str) : Prop := ∃ (msg : Str) (j : Nat) (p0 p1 p2 p3 p4 p5 p6 p7 p8 p9 : Pos), defBody st = errBody msg pv fld j p0 p1 p2 p3 p4 p5 p6 p7 p8 p9 ∧ ErrT qual pv fld msg (defArgs st) (defScope st) j p0 p1 p2 p3 p4 p5 p6 p7 p8 p9
theorem pmk_errX {X : Cx} {k : Nat} {C fI : Addr} {x qual pv fld : Str} {st : Stmt} {p pos : Pos} {e : Expr} {es : List Expr} {ta : TA} (T : ErrC X.prog X.K C fI qual pv fld (defArgs st) (defBody st) (defScope st)) (TT : ErrX st qual pv fld)
    (hr : Room (k + 1) X.A) (hg : Gl X x) (hm : X.mg x = some (.ref C)) (ha : PA X (e :: es) ta)
    (hdb : (x == ("__debug__" : Str)) = false := by decide) (hs : starEach (e :: es) X.env = (false, eval e X.env) :: starEach es X.env := by rfl) (hpl : (backTo pos (starEach es X.env)).any (·.1) = false := by rfl) :
    PMk X (.Call (.Name x p) (e :: es) [] pos) (tErr C fld ta) := by
  obtain ⟨msg, j, p0, p1, p2, p3, p4, p5, p6, p7, p8, p9, hb, TT⟩ := TT
  rw [hb] at T
  exact pmk_err T TT hr hg hm ha hdb hs hpl
end KG

set_option Elab.async false
set_option linter.all false
set_option maxRecDepth 100000
set_option maxHeartbeats 1000000
/-! KZ: a text beside a dict; not in a tuple of texts. -/
namespace KG
open PySem PySem.Spec PySem.Calls PyProof.Rows L2 SeqAt
theorem sub_str_dict : isSubtype (.type "str") (.type "dict") = pure false := by rw [isSubtype_type]; kernel_rfl
theorem sub_dict_str : isSubtype (.type "dict") (.type "str") = pure false := by rw [isSubtype_type]; kernel_rfl
theorem dict_declines (l : Addr) (es : Array DictEntry) (n : Nat) (dd : Option Addr) (sl : Array (Option Value)) (b : Str) (u : Tok) :
    Meets (Builtin.«dict.__eq__» ⟨[.ref l, .str b u], []⟩) (fun _ R s => s.heap.get? l = some { cls := .type "dict", dict := dd, data := .dict es n, slots := sl } ∧ R (.ok (.ret .notImplemented)) s) :=
  .of_wp fun prog w A R s h => by
    obtain ⟨hp, g, d, tk, os⟩ := s
    obtain ⟨hl, h⟩ := h
    have f1 := sub_str_dict
    wp_walk using wpAny_loadPart' hl
    exact ⟨_, rfl, h⟩
theorem str_declines (b : Str) (u : Tok) (l : Addr) (es : Array DictEntry) (n : Nat) (dd : Option Addr) (sl : Array (Option Value)) :
    Meets (Builtin.«str.__eq__» ⟨[.str b u, .ref l], []⟩) (fun _ R s => s.heap.get? l = some { cls := .type "dict", dict := dd, data := .dict es n, slots := sl } ∧ R (.ok (.ret .notImplemented)) s) :=
  .of_wp fun prog w A R s h => by
    obtain ⟨hp, g, d, tk, os⟩ := s
    obtain ⟨hl, h⟩ := h
    have f1 := sub_dict_str
    wp_walk using wpAny_loadPart' hl
    exact ⟨_, rfl, h⟩
theorem eqAt_str_dict {A : Around} {s : Shared} {l : Addr} {es : Array DictEntry} {n : Nat} {dd : Option Addr} {sl : Array (Option Value)} (b : Str) (u : Tok) (ho : s.heap.get? l = some { cls := .type "dict", dict := dd, data := .dict es n, slots := sl }) (hu : A.units < cLine) : EqAt A s (.str b u) (.ref l) false := fun prog w E Q h => by
  unfold eqBool
  refine wpAny_holding ?_
  refine wpAny_ite_split (fun hab => absurd (eq_of_beq hab) nofun) (fun _ => ?_)
  refine wpAny_bind (rc_eq_decline_or (k := false) (typeIs_str s b u) ⟨_, ho, rfl⟩ (by decide) sub_dict_str F.slot_str_eq F.slot_dict_eq_refl
    (fun _ hq => call_meets F.slot_str_eq (typeIs_str s b u) F.entry_str_eq (F.args_str_eq_2 _ _) (str_declines b u l es n dd sl) ⟨ho, hq⟩)
    (fun _ hq => call_meets F.slot_dict_eq_refl ⟨_, ho, rfl⟩ F.entry_dict_eq (F.args_dict_eq_2 _ _) (dict_declines l es n dd sl b u) ⟨ho, hq⟩)
    (fun _ hq => wpAny_of_eq (rfl : isSame (.str b u) (.ref l) = pure false) hq) (.inr hu) (wpAny_truthy_bool h))
section
variable {X : Cx}
/-- x not in t, t a tuple of texts of the written part, x any data, {} too -/
def rNotInB (K : PySem.W.Frag) : R2 := fun x y H Q => ∃ (p : Addr) (d : PyData) (zs : List Str), y = .ref p ∧ Da H x d ∧ (d.canLay0 = true ∨ d = .dict []) ∧ d.depth ≤ 40 ∧ KTup K p (zs.map V.str) ∧ zs.all PyData.strOk = true ∧ Q (.bl (!(zs.any fun z => PyData.eqv (.str z) d))) H
theorem strs_mem : ∀ {zs : List Str} {us : List Value}, Vals (zs.map V.str) us → ∀ u ∈ us, ∃ z t, u = Value.str z t
  | [], _, .nil => fun u h => nomatch h
  | z :: zs, _, .cons r t => fun u h => by
    rcases List.mem_cons.mp h with e | e
    · obtain ⟨k, rfl⟩ := r
      exact ⟨z, k, e⟩
    · exact strs_mem t u e
theorem op_notInB {k : Nat} (rm : Room k X.A) : OpR X (compareOp .NotIn) (rNotInB X.K) := by
  intro pins s σ H x y v u Q I rx ry h
  obtain ⟨p, d, zs, rfl, hd, lay, dp, kt, zok, q⟩ := h
  rcases lay with lay | rfl
  · exact op_notInA rm pins s σ H x _ v u Q I rx ry ⟨p, d, zs, rfl, hd, lay, dp, kt, zok, q⟩
  · obtain ⟨o, its, n, lk, hc, hdt, _, rv⟩ := kt
    obtain rfl : u = Value.ref p := ry
    obtain ⟨as, rd⟩ := hd X pins σ s v I rx
    have room := rm.units
    cases rd with
    | @dict a oo es nn kvs as bs h1 h2 h3 h4 h5 =>
      obtain ⟨oc, od, odt, osl⟩ := oo
      dsimp only at h2 h3
      subst h2 h3
      refine SeqAt.notIn_tupleAt (fun _ => false) ⟨_, I.kIn _ _ lk, hc, _, hdt⟩ (fun y hy => ?_) ⟨.bl _, H, I, rfl, ?_⟩
      · obtain ⟨z, t, rfl⟩ := strs_mem rv y (by simpa using hy)
        exact eqAt_str_dict z t h1 (by show X.A.units + 1 < cLine; omega)
      · have e1 : (its.any fun _ => false) = false := by
          rw [← Array.any_toList]
          exact List.any_eq_false.mpr fun _ _ => Bool.false_ne_true
        have e2 : (zs.any fun z => PyData.eqv (.str z) (.dict [])) = false := List.any_eq_false.mpr fun z _ => by simp [PyData.eqv]
        rw [e2] at q
        rw [e1]
        exact q
end
end KG

set_option Elab.async false
set_option linter.all false
set_option maxRecDepth 100000
set_option maxHeartbeats 1000000
/-! KO: operators of own objects beside whole numbers, calls of own objects, calls by keywords alone, defaults of methods, written dicts with whole numbers as keys. -/
namespace KG
open PySem PySem.Spec PySem.Calls PyProof.Rows L2
section
variable {X : Cx} {CX : CXT} {k : Nat} {f C : Addr} {fd : FuncData} {ps ks : List Str} {sp : Sp} {E : XK} {x : Str} {p pos : Pos} {e : Expr} {es : List Expr} {kws : List Keyword} {ta t tk : TA}
/-- o op i, o an own object, i a whole number -/
def rOwnI (C : Addr) (sp : Sp) (E : XK) : R2 := fun x y H Q => ∃ (a dx : Addr) (fs : List (Str × V)) (i : Int), x = .ref a ∧ H a = some (.ins C dx fs) ∧ y = .int i ∧ sp [.ref a, .int i] H Q E
/-- what the class has for an operator -/
structure OpAt (K : PySem.W.Frag) (C f : Addr) (op : Operator) : Prop where
  first : PySem.W.selfFirst K C = true
  own : PySem.W.findIn K (.ref C) (PySem.dunder op.info.2) = some (some (.ref f))
  fn : PySem.W.isFn K (.ref f) = true
  refl : ∃ rc, PySem.W.findIn K (.ref C) (dunderR op.info.2) = some rc ∧ (rc = none ∨ ∃ g : Addr, rc = some (.ref g))
  int1 : ∃ fo, PySem.W.findIn K (.type "int") (PySem.dunder op.info.2) = some fo
  int2 : ∃ ro, PySem.W.findIn K (.type "int") (dunderR op.info.2) = some ro
  sub : PySem.W.subIn K (.type "int") (.ref C) = some false
theorem op_ownI {op : Operator} (O : OpAt X.K C f op) (F : Gd X.prog X.w X.K X.mg X.base CX k f fd ps sp) (rm : Room k X.A) (gd : X.A.guards = some []) (hb : Binds X.K fd ps []) (hx : Passes CX X E) : OpR X (binaryOp op) (rOwnI C sp E) := by
  intro pins s σ H x y v u Q I rx ry h
  obtain ⟨a, dx, fs, i, rfl, ea, rfl, q⟩ := h
  obtain rfl : v = Value.ref a := rx
  obtain ⟨t, rfl⟩ := ry
  obtain ⟨mA, J, _⟩ := ins_get I.hok ea
  obtain ⟨od, J, _⟩ := J.look
  obtain ⟨m, fr⟩ := I.fr
  obtain ⟨rc, hr, hp⟩ := O.refl
  obtain ⟨fo, h1⟩ := O.int1
  obtain ⟨ro, h2⟩ := O.int2
  have r2 : Vals [V.ref a, .int i] [Value.ref a, .int i t] := .cons rfl (.cons ⟨t, rfl⟩ .nil)
  have bt := bind_pos (dvs := []) (vs := [V.ref a, .int i]) F hb .nil I.kIn r2 q
  refine PySem.W.ksp_binT fr I.ok.mod.kin J rfl O.first O.own O.fn hr hp h1 h2 O.sub ?_
  refine wpAny_mono (run_g (us := [.ref a, .int i t]) F rm gd hx I bt r2 q) (fun v s' hv => ?_) fun _ _ z => z
  have rv : ∃ z, RelV z v := let ⟨z, _, _, rz, _⟩ := hv; ⟨z, rz⟩
  exact rv.elim fun z rz => SlX.cmpback rz hv
theorem w_own {a dx : Addr} {fs : List (Str × V)} {i : Int} {H : Hp} {Q : VK} (h : H a = some (.ins C dx fs)) (q : sp [.ref a, .int i] H Q E) : rOwnI C sp E (.ref a) (.int i) H Q := ⟨a, dx, fs, i, rfl, h, rfl, q⟩
/-! ### o(e, ..), o an own object that a name holds -/
def tOwnC (C : Addr) (sp : Sp) (E : XK) (n : Nat) (ta : TA) : TE := fun σ H Q => ∃ a : Addr, σ[n]? = some (some (.ref a)) ∧ ta σ H fun vs H1 => ∃ dx fs, H1 a = some (.ins C dx fs) ∧ sp (.ref a :: vs) H1 Q E
theorem own_with {M : Model} {A : Around} {W : Value → Shared → Prop} {s : Shared} {x C : Addr} {K : PySem.W.Frag} {args : List (Bool × Sem Value)} {Q : Value → Shared → Prop} (plain : (args.any (·.1) || ([] : List (Option Str × Sem Value)).any (·.1.isNone)) = false)
    (h : wpAny M A (evalArgs (.ref x) true args []) (fun a s1 => (∃ ox od, PySem.W.InstAt s1.heap x ox C od ∧ ox.data = .plain) ∧ wpAny M A (call (.ref x) a.pos a.kw) Q W s1) W s) : wpAny M A (callWith pos (.ref x) [] args []) Q W s := by
  unfold callWith
  refine wpAny_bind (wpAny_holding (wpAny_mono h (fun a s1 ⟨⟨ox, od, J, hd⟩, g⟩ => wpAny_bind (wpAny_standAt ?_)) fun _ _ z => z))
  simp only [plain]
  refine wpAny_bind ((PySem.W.kco_keeper (M := M) J hd).here ?_)
  have behind : ∀ {t : Sem Value}, wpAny M A t Q W s1 → wpAny M A (t >>= fun r => holding [r] point >>= fun _ => pure r) Q W s1 := fun ht =>
    wpAny_bind (wpAny_mono ht (fun r s2 hr => wpAny_bind (wpAny_holding (wpAny_point (wpAny_pure hr)))) fun _ _ z => z)
  exact behind (wpAny_operateT g)
theorem pe_ownC {n : Nat} (O : PySem.W.findIn X.K (.ref C) "__call__" = some (some (.ref f))) (fn : PySem.W.isFn X.K (.ref f) = true) (fi : PySem.W.fnIn X.K f = true) (F : Gd X.prog X.w X.K X.mg X.base CX k f fd ps sp) (rm : Room k X.A) (gd : X.A.guards = some []) (hb : Binds X.K fd ps []) (hx : Passes CX X E)
    (hv : PE X (.Name x p) (tVar n)) (ha : PA X (e :: es) ta) (he : starEach (e :: es) X.env = (false, eval e X.env) :: starEach es X.env := by rfl) (hpl : (backTo pos (starEach es X.env)).any (·.1) = false := by rfl) :
    PE X (.Call (.Name x p) (e :: es) [] pos) (tOwnC C sp E n ta) := by
  refine ⟨fun pins s σ H Q I h => ?_⟩
  obtain ⟨a, ea, q⟩ := h
  refine wpAny_Call_Name_kw (wpAny_mono (hv.run pins s σ H (fun v H' => v = .ref a ∧ ta σ H' fun vs H1 => ∃ dx fs, H1 a = some (.ins C dx fs) ∧ sp (.ref a :: vs) H1 Q E) I ⟨_, ea, rfl, q⟩) (fun u s1 hu => ?_) fun _ _ z => z)
  obtain ⟨v, H1, I1, rv, ev, q1⟩ := hu
  subst ev
  obtain rfl : u = Value.ref a := rv
  show wpAny _ _ (callWith pos (.ref a) [] (backTo pos (starEach (e :: es) X.env)) []) _ _ _
  rw [he]
  refine own_with (K := X.K) (C := C) (by show ((false || (backTo pos (starEach es X.env)).any (·.1)) || false) = false; rw [hpl]; rfl) (evalArgs_plain ?_)
  have args := ha.run pos pins s1 σ H1 _ I1 q1
  rw [he] at args
  refine wpAny_mono args (fun us s2 hs => ?_) fun _ _ z => z
  obtain ⟨vs, H2, J, r, dx, fs, ea2, q2⟩ := hs
  obtain ⟨mA, Z, _⟩ := ins_get J.hok ea2
  obtain ⟨od, Z, zd⟩ := Z.look
  refine ⟨⟨_, od, Z, by first | exact zd | rfl⟩, wpAny_call (PySem.W.kco_code J.kIn Z (by first | exact zd | rfl) O fn fi ?_)⟩
  have r1 : Vals (V.ref a :: vs) (Value.ref a :: us) := .cons rfl r
  refine codeAny_mono (F.go X.A X.stack s2 H2 ⟨.ref a :: us, []⟩ _ _ _ E rm gd J.env0 (bind_pos (dvs := []) F hb .nil J.kIn r1 (by rw [List.append_nil]; exact q2)) (by rw [List.append_nil]; exact r1) q2) fun out s' hq => ?_
  match out, hq with
  | .error e, hq => exact hx pins σ H2 s2 e s' J hq
  | .ok (.ret u), hq => exact J.after hq
/-! ### f(k = v, ..) -/
def tCallK (j : Nat) (sp : Sp) (gV : List V → List V) (E : XK) (tk : TA) : TE := fun σ H Q => tk σ H fun zs H2 => zs.length = j ∧ sp (gV zs) H2 Q E
theorem pe_gcallK {g : List Value → List Value → List Value} {gV : List V → List V → List V} (F : Gd X.prog X.w X.K X.mg X.base CX k f fd ps sp) (rm : Room k X.A) (gd : X.A.guards = some []) (gl : Gl X x) (at_ : X.mg x = some (.ref f)) (kp : PySem.W.keepIn X.K (.ref f) = true)
    (hb : KBn X.K fd ps 0 ks g gV) (hx : Passes CX X E) (hkw : PK X kws tk) (hall : (backToKw pos (keywordEach kws X.env)).all (·.1.isSome) = true := by rfl) (hks : (backToKw pos (keywordEach kws X.env)).filterMap (·.1) = ks := by rfl)
    (hdb : (x == ("__debug__" : Str)) = false := by decide) (hpl : ((backTo pos (starEach [] X.env)).any (·.1) || (backToKw pos (keywordEach kws X.env)).any (·.1.isNone)) = false := by rfl) :
    PE X (.Call (.Name x p) [] kws pos) (tCallK ks.length sp (gV []) E tk) := by
  refine ⟨fun pins s σ H Q I h => wpAny_Call_Name_kw (ld_glob I gl at_ (PySem.W.callWith_KW0 (first := []) (h₀ := X.base) I.ok.mod.kin kp hall (thn (hkw.run pos pins s σ H _ I h) fun ws s2 ⟨zs, H2, J, rz, lz, q2⟩ => ⟨J.kIn, ?_⟩) hpl) hdb)⟩
  rw [hks]
  exact run_g (us := []) F rm gd hx J (hb.to s2 [] ws J.kIn rfl (rz.length.symm.trans lz)) (hb.rel .nil rz) q2
theorem w_callK {σ : L2.St} {H : Hp} {Q : VK} {j : Nat} {gV : List V → List V} (q : tk σ H fun zs H2 => zs.length = j ∧ sp (gV zs) H2 Q E) : tCallK j sp gV E tk σ H Q := q
end
/-! ### defaults of a method -/
section
variable {P : Program} {w : World} {K : PySem.W.Frag} {mg : Str → Option Value} {base : Heap} {k : Nat} {x qual : Str} {st : Stmt} {ps N : List Str} {sp : Sp} {f : Addr} {fd : FuncData} {dvs : List V} {kws : List (Str × V)}
theorem gdD (F : FunD K x qual (defArgs st) (defBody st) (defScope st) dvs kws f fd) (sc : FnScope N ps (defScope st)) (len : ∀ vs H Q E, sp vs H Q E → vs.length = ps.length)
    (inner : ∀ (cdv : Value) (A : Around) (outer : List Env) (s : Shared) (H : Hp) (vs : List V) (Q : VK) (E : XK),
      Room k (A.deeper (envOfC qual (defScope st) s.heap.objs.size f cdv)) → (A.deeper (envOfC qual (defScope st) s.heap.objs.size f cdv)).guards = some [] → sp vs H Q E →
      ∃ t, PSs (cxOf (L2.CX P w) P w K mg base N qual (defScope st) f cdv A outer s H E) (defBody st) t ∧ t { nx := fun _ H' => Q .non H', rt := Q } (start N vs) H) :
    Gd P w K mg base (L2.CX P w) (k + 1) f fd ps sp := by
  obtain ⟨oc, od, dV, kV, doc, pm, an, cdv, ct, osl, rfl, found, code, _, _⟩ := F.ex
  exact gd_of found code sc len fun A outer s H vs Q E rm gd q => inner cdv A outer s H vs Q E rm gd q
/-- a def of the text that may raise -/
theorem gdF {x : Str} (F : Fun K x qual st f fd) (sc : FnScope N ps (defScope st)) (len : ∀ vs H Q E, sp vs H Q E → vs.length = ps.length)
    (inner : ∀ (cdv : Value) (A : Around) (outer : List Env) (s : Shared) (H : Hp) (vs : List V) (Q : VK) (E : XK),
      Room k (A.deeper (envOfC qual (defScope st) s.heap.objs.size f cdv)) → (A.deeper (envOfC qual (defScope st) s.heap.objs.size f cdv)).guards = some [] → sp vs H Q E →
      ∃ t, PSs (cxOf (L2.CX P w) P w K mg base N qual (defScope st) f cdv A outer s H E) (defBody st) t ∧ t { nx := fun _ H' => Q .non H', rt := Q } (start N vs) H) :
    Gd P w K mg base (L2.CX P w) (k + 1) f fd ps sp := gdX F sc len inner
end
/-- the def x, promised sp, which may raise -/
def CalX (P : Program) (w : World) (K : PySem.W.Frag) (mg : Str → Option Value) (base : Heap) (j : Nat) (x : Str) (ps : List Str) (sp : Sp) : Prop :=
  ∃ f fd, mg x = some (.ref f) ∧ PySem.W.keepIn K (.ref f) = true ∧ Binds K fd ps [] ∧ (∃ (oc : Value) (od : Option Addr) (osl : Array (Option Value)), K.lookup f = some ⟨oc, od, .func fd, osl⟩) ∧ Gd P w K mg base (L2.CX P w) j f fd ps sp
/-- .. called by keywords alone -/
def CalK (P : Program) (w : World) (K : PySem.W.Frag) (mg : Str → Option Value) (base : Heap) (j : Nat) (x : Str) (ks : List Str) (is : List Nat) (sp : Sp) : Prop :=
  ∃ f fd ps, mg x = some (.ref f) ∧ PySem.W.keepIn K (.ref f) = true ∧ KBn K fd ps 0 ks (fun us ws => us ++ sel is ws) (fun vs zs => vs ++ sel is zs) ∧ Gd P w K mg base (L2.CX P w) j f fd ps sp
section
variable {P : Program} {w : World} {K : PySem.W.Frag} {mg : Str → Option Value} {base : Heap} {k j : Nat} {x : Str} {st : Stmt} {ps N ks : List Str} {is : List Nat} {sp : Sp}
theorem DefAt.calX (D : DefAt K mg x st ps) (sc : FnScope N ps (defScope st)) (len : ∀ vs H Q E, sp vs H Q E → vs.length = ps.length)
    (inner : ∀ (f : Addr) (cdv : Value) (A : Around) (outer : List Env) (s : Shared) (H : Hp) (vs : List V) (Q : VK) (E : XK),
      Room k (A.deeper (envOfC x (defScope st) s.heap.objs.size f cdv)) → (A.deeper (envOfC x (defScope st) s.heap.objs.size f cdv)).guards = some [] → sp vs H Q E →
      ∃ t, PSs (cxOf (L2.CX P w) P w K mg base N x (defScope st) f cdv A outer s H E) (defBody st) t ∧ t { nx := fun _ H' => Q .non H', rt := Q } (start N vs) H) :
    CalX P w K mg base (k + 1) x ps sp := by
  obtain ⟨f, fd, a, F, b⟩ := D.ex
  have G : Gd P w K mg base (L2.CX P w) (k + 1) f fd ps sp := gdX F sc len (inner f)
  obtain ⟨oc, od, kV, doc, pm, an, cdv, ct, osl, e, found, code⟩ := F.ex
  exact ⟨f, fd, a, F.kp, b, ⟨oc, od, osl, by rw [found, e]⟩, G⟩
theorem CalX.kw (c : CalX P w K mg base j x ps sp) (D : DefAt K mg x st ps) (h : BindOkK x x st ps 0 ks is) : CalK P w K mg base j x ks is sp := by
  obtain ⟨f, fd, a, kp, b, ⟨oc, od, osl, l⟩, G⟩ := c
  obtain ⟨f', fd', a', F, _⟩ := D.ex
  rw [a] at a'
  cases a'
  have e : fd' = fd := by
    obtain ⟨_, _, _, _, _, _, _, _, _, _, found, _⟩ := F.ex
    rw [l] at found
    cases found
    rfl
  rw [e] at F
  exact ⟨f, fd, ps, a, kp, kbn_of F 0 ks is h, G⟩
end
section
variable {X : Cx} {j k : Nat} {x : Str} {ps ks : List Str} {is : List Nat} {sp : Sp} {p pos : Pos} {e : Expr} {es : List Expr} {kws : List Keyword} {t tk : TA} {E : XK}
theorem pcX (c : CalX X.prog X.w X.K X.mg X.base j x ps sp) (hx : Passes (L2.CX X.prog X.w) X E) (rm : Room k X.A) (hk : j ≤ k) (gd : X.A.guards = some []) (gl : Gl X x) (ha : PA X (e :: es) t)
    (hdb : (x == ("__debug__" : Str)) = false := by decide) (he : starEach (e :: es) X.env = (false, eval e X.env) :: starEach es X.env := by rfl) (hpl : (backTo pos (starEach es X.env)).any (·.1) = false := by rfl) :
    PE X (.Call (.Name x p) (e :: es) [] pos) (tCall sp [] E t) := by
  obtain ⟨f, fd, a, kp, b, _, F⟩ := c
  exact pe_gcall F (rm.mono hk) gd gl a kp b .nil hx ha hdb he hpl
theorem pcK (c : CalK X.prog X.w X.K X.mg X.base j x ks is sp) (hx : Passes (L2.CX X.prog X.w) X E) (rm : Room k X.A) (hk : j ≤ k) (gd : X.A.guards = some []) (gl : Gl X x) (hkw : PK X kws tk)
    (hall : (backToKw pos (keywordEach kws X.env)).all (·.1.isSome) = true := by rfl) (hks : (backToKw pos (keywordEach kws X.env)).filterMap (·.1) = ks := by rfl)
    (hdb : (x == ("__debug__" : Str)) = false := by decide) (hpl : ((backTo pos (starEach [] X.env)).any (·.1) || (backToKw pos (keywordEach kws X.env)).any (·.1.isNone)) = false := by rfl) :
    PE X (.Call (.Name x p) [] kws pos) (tCallK ks.length sp (fun zs => [] ++ sel is zs) E tk) := by
  obtain ⟨f, fd, ps, a, kp, b, F⟩ := c
  exact pe_gcallK F (rm.mono hk) gd gl a kp b hx hkw hall hks hdb hpl
end
/-! ### a written dict with whole numbers as keys -/
inductive KEnts : List DictEntry → List (Int × V) → Prop
  | nil : KEnts [] []
  | cons {e : DictEntry} {i : Int} {v : V} {es : List DictEntry} {kvs : List (Int × V)} : (∃ t, e.key = .int i t) → e.hash = hashInt i → RelV v e.val → KEnts es kvs → KEnts (e :: es) ((i, v) :: kvs)
def KID (K : PySem.W.Frag) (p : Addr) (kvs : List (Int × V)) : Prop := (p == sysModules) = false ∧ ∃ (es : List DictEntry) (n : Nat), K.lookup p = some ⟨.type "dict", none, .dict es.toArray n, #[]⟩ ∧
  KEnts es kvs
theorem kid_find {es : List DictEntry} {kvs : List (Int × V)} (h : KEnts es kvs) (i : Int) :
    (kvs.lookup i = none ∧ findBy Value.isInt es.toArray i = none) ∨ ∃ v u, kvs.lookup i = some v ∧ findBy Value.isInt es.toArray i = some u ∧ RelV v u := by
  unfold findBy
  rw [List.find?_toArray]
  induction h with
  | nil => exact .inl ⟨rfl, rfl⟩
  | @cons e j v es kvs hk _ rv t ih =>
    obtain ⟨tk, ek⟩ := hk
    have e1 : Value.isInt i e.key = decide (j = i) := by
      rw [ek]
      show (j == i) = decide (j = i)
      by_cases h : j = i
      · rw [decide_eq_true h, h]; exact beq_self_eq_true i
      · rw [decide_eq_false h]; exact beq_eq_false_iff_ne.mpr h
    by_cases z : j = i
    · subst z
      refine .inr ⟨v, e.val, by simp [List.lookup_cons], ?_, rv⟩
      rw [List.find?_cons_of_pos (by rw [e1]; exact decide_eq_true rfl)]
      rfl
    · have n1 : (i == j) = false := beq_eq_false_iff_ne.mpr (Ne.symm z)
      rw [List.lookup_cons, n1, List.find?_cons_of_neg (by rw [e1]; simpa using z)]
      exact ih
section
variable {X : Cx}
theorem kid_map {p : Addr} {kvs : List (Int × V)} {h : Heap} (kin : X.K.In h) {es : List DictEntry} {n : Nat} (l : X.K.lookup p = some ⟨.type "dict", none, .dict es.toArray n, #[]⟩) (f : KEnts es kvs) :
    h.MapOf (intKind X.prog X.w) p fun i => findBy Value.isInt es.toArray i := by
  refine ⟨_, es.toArray, n, kin _ _ l, ⟨rfl, rfl, rfl⟩, rfl, fun e he => ?_, fun _ => rfl⟩
  have he : e ∈ es := by simpa using he
  revert he
  clear l
  intro he
  rename e ∈ es.toArray => old
  clear old
  induction f with
  | nil => cases he
  | cons a hh _ _ ih =>
    rcases List.mem_cons.mp he with z | z
    · subst z
      obtain ⟨t, ek⟩ := a
      exact ⟨_, by rw [ek]; exact intKind_is _ _ _ _, hh⟩
    · exact ih z
def rInKI (K : PySem.W.Frag) : R2 := fun x y H Q => ∃ (i : Int) (p : Addr) (kvs : List (Int × V)), x = .int i ∧ y = .ref p ∧ KID K p kvs ∧ Q (.bl (kvs.lookup i).isSome) H
theorem op_inKI : OpR X (compareOp .In) (rInKI X.K) := by
  intro pins s σ H x y v u Q I rx ry h
  obtain ⟨i, p, kvs, rfl, rfl, ⟨lo, es, n, l, f⟩, q⟩ := h
  obtain ⟨t, rfl⟩ := rx
  cases ry
  refine wpAny_in_of (intKind_is X.prog X.w i t) lo (kid_map I.kIn l f) ?_
  have e : (findBy Value.isInt es.toArray i).isSome = (kvs.lookup i).isSome := by
    rcases kid_find f i with ⟨a, b⟩ | ⟨_, _, a, b, _⟩ <;> rw [a, b] <;> rfl
  rw [e]
  exact ⟨.bl (kvs.lookup i).isSome, H, I.tok _, rfl, q⟩
def rIxKI (K : PySem.W.Frag) : R2 := fun x y H Q => ∃ (i : Int) (p : Addr) (kvs : List (Int × V)) (v : V), x = .ref p ∧ y = .int i ∧ KID K p kvs ∧ kvs.lookup i = some v ∧ Q v H
theorem ix_KI : IxR X (rIxKI X.K) := by
  intro value slice pins s σ H x y v u Q I rx ry h hs
  obtain ⟨i, p, kvs, z, rfl, rfl, ⟨lo, es, n, l, f⟩, hz, q⟩ := h
  obtain rfl : v = Value.ref p := rx
  obtain ⟨t, rfl⟩ := ry
  have hm := kid_map I.kIn l f
  rcases kid_find f i with ⟨a, _⟩ | ⟨v1, u1, a, b, r⟩
  · rw [a] at hz; cases hz
  · rw [a] at hz
    cases hz
    exact tail_any hm.typeIs slot_dict_getitem.lookup (wpAny_getItem_of (intKind_is X.prog X.w i t) hm b ⟨_, H, I.tok _, r, q⟩) hs
end
/-! ### steps -/
section
variable {σ : L2.St} {H : Hp} {Q : VK} {ta tb tc : TE} {i j : Int}
/-- what a comprehension asks -/
def LcQ (J : It) (g : TG) (tt : TT) (te : TE) (vs : List Nat) (σ : L2.St) (H1 : Hp) (Q : VK) : Prop := ∀ D, H1 D = none → ∃ W : Nat → Nat → Hp → Prop, (∃ m, W 0 m (upd H1 D (.lst []))) ∧ ∀ i m H, W i m H →
  (J.stop i H ∧ Q (.ref D) H) ∨ (J.go i H ∧ ∃ Nx : Hp → Prop, (∀ H', Nx H' → ∃ m', m' < m ∧ W (i + 1) m' H') ∧ ∀ x H', J.yld i H x H' → g x (wipe σ vs) H' fun σ2 H2 => wipe σ2 vs = wipe σ vs ∧ tt σ2 H2 fun b H3 =>
    if b = true then te σ2 H3 fun y H4 => ∃ acc, H4 D = some (.lst acc) ∧ acc.length < sizeLine ∧ Nx (upd H4 D (.lst (acc ++ [y]))) else Nx H3)
theorem w_lc {wi : TI} {g : TG} {tt : TT} {te : TE} {vs : List Nat} (q : wi σ H fun J H1 => LcQ J g tt te vs σ H1 Q) : tLc wi g tt te vs σ H Q := q
theorem w_notV (q : ta σ H fun x H1 => ∃ c, x = .bl c ∧ Q (.bl (!c)) H1) : tNotV ta σ H Q := q
theorem w_chain {r r' : R2} (q : ta σ H fun x H1 => tb σ H1 fun y H2 => r x y H2 fun z H3 => ∃ k, z = .bl k ∧ (if k = true then tc σ H3 fun w' H4 => r' y w' H4 Q else Q (.bl false) H3)) : tChain r r' ta tb tc σ H Q := q
theorem w_neg (q : Q (.int (-i)) H) : rU (fun i => .int (-i)) (.int i) H Q := ⟨i, rfl, q⟩
theorem w_shl (c : CPow i j) (q : Q (.int (i * 2 ^ j.toNat)) H) : rI CPow (fun i j => .int (i * 2 ^ j.toNat)) (.int i) (.int j) H Q := ⟨i, j, rfl, rfl, c, q⟩
theorem w_shr (c : 0 ≤ j) (q : Q (.int (i / 2 ^ j.toNat)) H) : rI (fun _ j => 0 ≤ j) (fun i j => .int (i / 2 ^ j.toNat)) (.int i) (.int j) H Q := ⟨i, j, rfl, rfl, c, q⟩
end
end KG

set_option Elab.async false
set_option linter.all false
set_option maxRecDepth 100000
set_option maxHeartbeats 1000000
/-! KP: operators with a whole number on the left of an own object, in-place forms of own operators, the unary one. -/
namespace KG
open PySem PySem.Spec PySem.Calls PyProof.Rows L2
/-- what a whole number's own operator says beside an own object -/
def Nay (op : Operator) (idl : String) : Prop := ∀ (prog : Program) (w : World) (A : Around) (E : Value → Shared → Prop) (s : Shared) (i : Int) (t : Tok) (x C dx : Addr) (Q : Option Value → Shared → Prop), s.heap.get? x = some (PySem.W.instObj C dx) → Q none s → wpAny (model prog w) A (tryMethod (.int i t) (PySem.dunder op.info.2) (.ref x)) Q E s
theorem meets_and (i : Int) (t : Tok) (x C dx : Addr) : Meets (Builtin.«int.__and__» ⟨[.int i t, .ref x], []⟩) (fun _ R s => s.heap.get? x = some (PySem.W.instObj C dx) ∧ R (.ok (.ret Value.notImplemented)) s) :=
  .of_wp fun prog w A R s h => by
    obtain ⟨hp, g, d, tk, os⟩ := s
    obtain ⟨hl, h⟩ := h
    wp_walk using wpAny_loadPart' hl
    exact ⟨_, rfl, h⟩
theorem nay_and : Nay .BitAnd "int.__and__" := by
  intro prog w A E s i t x C dx Q ho q
  exact wpAny_tryMethod_declines (name := PySem.dunder "and") (typeIs_int s i t) PyProof.Rows.slot_int_and (call_meets PyProof.Rows.slot_int_and (typeIs_int s i t) PyProof.Rows.entry_int_and (PyProof.Rows.args_int_and _ _) (meets_and i t x C dx) ⟨ho, rfl, q⟩)
theorem meets_or (i : Int) (t : Tok) (x C dx : Addr) : Meets (Builtin.«int.__or__» ⟨[.int i t, .ref x], []⟩) (fun _ R s => s.heap.get? x = some (PySem.W.instObj C dx) ∧ R (.ok (.ret Value.notImplemented)) s) :=
  .of_wp fun prog w A R s h => by
    obtain ⟨hp, g, d, tk, os⟩ := s
    obtain ⟨hl, h⟩ := h
    wp_walk using wpAny_loadPart' hl
    exact ⟨_, rfl, h⟩
theorem nay_or : Nay .BitOr "int.__or__" := by
  intro prog w A E s i t x C dx Q ho q
  exact wpAny_tryMethod_declines (name := PySem.dunder "or") (typeIs_int s i t) PyProof.Rows.slot_int_or (call_meets PyProof.Rows.slot_int_or (typeIs_int s i t) PyProof.Rows.entry_int_or (PyProof.Rows.args_int_or _ _) (meets_or i t x C dx) ⟨ho, rfl, q⟩)
theorem meets_xor (i : Int) (t : Tok) (x C dx : Addr) : Meets (Builtin.«int.__xor__» ⟨[.int i t, .ref x], []⟩) (fun _ R s => s.heap.get? x = some (PySem.W.instObj C dx) ∧ R (.ok (.ret Value.notImplemented)) s) :=
  .of_wp fun prog w A R s h => by
    obtain ⟨hp, g, d, tk, os⟩ := s
    obtain ⟨hl, h⟩ := h
    wp_walk using wpAny_loadPart' hl
    exact ⟨_, rfl, h⟩
theorem nay_xor : Nay .BitXor "int.__xor__" := by
  intro prog w A E s i t x C dx Q ho q
  exact wpAny_tryMethod_declines (name := PySem.dunder "xor") (typeIs_int s i t) PyProof.Rows.slot_int_xor (call_meets PyProof.Rows.slot_int_xor (typeIs_int s i t) PyProof.Rows.entry_int_xor (PyProof.Rows.args_int_xor _ _) (meets_xor i t x C dx) ⟨ho, rfl, q⟩)
section
variable {prog : Program} {w : World} {A : Around} {E : Value → Shared → Prop} {s : Shared} {K : PySem.W.Frag} {x C dx f g : Addr} {od : Option Obj} {h₀ : Heap} {L : Addr} {m : Str → Option Value} {op : Operator} {idl : String} {i : Int} {t : Tok}
/-- i op o, o an own object whose class has the operator on both sides -/
theorem back_side {Q : Value → Shared → Prop} (X : K.In s.heap) (I : PySem.W.InstAt s.heap x (PySem.W.instObj C dx) C od) (hc : PySem.W.selfFirst K C = true)
    (hs : PySem.W.findIn K (.ref C) (PySem.dunder op.info.2) = some (some (.ref f))) (hr : PySem.W.findIn K (.ref C) (dunderR op.info.2) = some (some (.ref g))) (hg : PySem.W.isFn K (.ref g) = true)
    (hsub : PySem.W.subIn K (.ref C) (.type "int") = some false) (fills : fillsNumberSlot (.type "int") op.info.2 = pure true) (no : Nay op idl)
    (q : wpAny (model prog w) A (call (.ref g) [.ref x, .int i t]) (PySem.W.CmpBack Q) E s) : wpAny (model prog w) A (binaryOp op (.int i t) (.ref x)) Q E s := by
  obtain ⟨cd, rest, ec, em⟩ := PySem.W.ksp_first hc
  have fl := PySem.W.fills_K (M := model prog w) X ec em hs
  have tx := I.type (M := model prog w)
  have tr := PySem.W.ksp_try (M := model prog w) (A := A) (E := E) X I hr hg q
  have tl : ∀ Q', Q' none s → wpAny (model prog w) A (tryMethod (.int i t) (PySem.dunder op.info.2) (.ref x)) Q' E s := fun Q' z => no prog w A E s i t x C dx Q' I.at_ z
  have sb := PySem.W.looks_subIn (M := model prog w) X hsub
  rcases ho : op.info with ⟨sym, nm⟩
  rw [ho] at fl tr tl fills
  simp only at fl tr tl fills
  have ne : (Value.type "int" == Value.ref C) = false := rfl
  have np : numberSlotInPython (.type "int") nm = pure false := rfl
  simp only [binaryOp, ho]
  refine wpAny_holding (wpAny_bind ?_)
  unfold binaryOp1
  refine wpAny_bind (wpAny_typeOf (typeIs_int s i t) (wpAny_bind (tx.here (wpAny_bind (wpAny_of_eq fills ?_)))))
  simp only [ne, Bool.false_eq_true, if_false]
  refine wpAny_bind (fl.here ?_)
  simp only [Bool.and_self, if_true]
  refine wpAny_bind (sb.here ?_)
  simp only [Bool.false_eq_true, if_false, pure_bind, Bool.not_false, Bool.and_self, if_true, np]
  refine wpAny_bind (tl _ ?_)
  refine wpAny_bind (wpAny_mono tr (fun r s' z => ?_) fun _ _ z => z)
  obtain ⟨v, rfl, z⟩ := z
  exact wpAny_bind (wpAny_rule (wpAny_pure (wpAny_pure z)))
/-- what o op i asks and does, o an own object whose class has the operator, i a whole number -/
theorem fore_side {Q : Option Value → Shared → Prop} {rc ro : Option Value} (X : K.In s.heap) (I : PySem.W.InstAt s.heap x (PySem.W.instObj C dx) C od) (hc : PySem.W.selfFirst K C = true)
    (hs : PySem.W.findIn K (.ref C) (PySem.dunder op.info.2) = some (some (.ref f))) (hf : PySem.W.isFn K (.ref f) = true) (hr : PySem.W.findIn K (.ref C) (dunderR op.info.2) = some rc) (hp : rc = none ∨ ∃ b : Addr, rc = some (.ref b))
    (hsub : PySem.W.subIn K (.type "int") (.ref C) = some false) (fills : fillsNumberSlot (.type "int") op.info.2 = pure true) (hi : PySem.W.findIn K (.type "int") (dunderR op.info.2) = some ro)
    (q : wpAny (model prog w) A (call (.ref f) [.ref x, .int i t]) (PySem.W.CmpBack fun v => Q (some v)) E s) : wpAny (model prog w) A (binaryOp1 op.info.2 (.ref x) (.int i t)) Q E s := by
  obtain ⟨cd, rest, ec, em⟩ := PySem.W.ksp_first hc
  have fl := PySem.W.fills_K (M := model prog w) X ec em hs
  have tx := I.type (M := model prog w)
  have tr := PySem.W.ksp_try (M := model prog w) (A := A) (E := E) (Q := fun v => Q (some v)) X I hs hf q
  have py := PySem.W.ksp_inPy (M := model prog w) X hs hr hp
  have sb := PySem.W.looks_subIn (M := model prog w) X hsub
  have lr := PySem.W.looks_findIn (M := model prog w) X hi
  generalize op.info.2 = nm at fl tr py lr fills
  have ne : (Value.ref C == Value.type "int") = false := rfl
  have np : numberSlotInPython (.type "int") nm = pure false := rfl
  unfold binaryOp1
  refine wpAny_bind (tx.here (wpAny_bind (wpAny_typeOf (typeIs_int s i t) (wpAny_bind (fl.here ?_)))))
  simp only [ne, Bool.false_eq_true, if_false]
  refine wpAny_bind (wpAny_of_eq fills ?_)
  simp only [Bool.and_self, if_true]
  refine wpAny_bind (sb.here ?_)
  simp only [Bool.false_eq_true, if_false, pure_bind, Bool.not_false, Bool.and_self, if_true]
  refine wpAny_bind (py.here ?_)
  simp only [if_true, np, pure_bind, Bool.not_false]
  refine wpAny_bind (lr.here ?_)
  refine wpAny_bind (wpAny_mono tr (fun r s' z => ?_) fun _ _ z => z)
  obtain ⟨v, rfl, z⟩ := z
  exact wpAny_pure z
theorem none_any {M : Model} {h : Heap} {i' : Str} {g' : Value → Option Value → Sem Bool} (X : K.In h) (z : ∀ c, g' c none = pure false) : ∀ {cs : List Value}, (∀ c ∈ cs, PySem.W.findIn K c i' = some none) →
    PySem.W.Looks M h (cs.anyM fun c => typeLookup c i' >>= g' c) false
  | [], _ => .of_pure rfl
  | c :: cs, a => fun A Q E s k q => by
    rw [List.anyM_cons]
    refine wpAny_bind (wpAny_bind ((PySem.W.looks_findIn X (a c (.head _))) A _ E s k ?_))
    rw [z c]
    refine wpAny_pure ?_
    simp only [Bool.false_eq_true, if_false]
    exact none_any X z (fun c' m => a c' (.tail _ m)) A Q E s k q
/-- a class that has no in-place form of an operator -/
theorem no_inp {M : Model} {h : Heap} {cd : ClassData} {nm : String} {add : Bool} (X : K.In h) (hc : PySem.W.clsIn K C = some cd) (hn : ∀ c ∈ cd.mro, PySem.W.findIn K c (dunderI nm) = some none) : PySem.W.Looks M h (fillsInplaceSlot (.ref C) nm add) false := fun A Q E s k q => by
  have Lm : PySem.W.Looks M h (mroOf (.ref C)) cd.mro := (PySem.W.looks_clsIn X hc).andThen (f := fun cd => pure cd.mro) .now
  unfold fillsInplaceSlot
  exact wpAny_bind (Lm A _ E s k (none_any X (fun _ => rfl) hn A Q E s k q))
/-- o op= i where the class has the operator and no in-place form of it -/
theorem inp_side {Q : Value → Shared → Prop} {cd : ClassData} {rc ro : Option Value} (X : K.In s.heap) (I : PySem.W.InstAt s.heap x (PySem.W.instObj C dx) C od) (hc : PySem.W.selfFirst K C = true) (hd : PySem.W.clsIn K C = some cd) (hn : ∀ c ∈ cd.mro, PySem.W.findIn K c (dunderI op.info.2) = some none)
    (hs : PySem.W.findIn K (.ref C) (PySem.dunder op.info.2) = some (some (.ref f))) (hf : PySem.W.isFn K (.ref f) = true) (hr : PySem.W.findIn K (.ref C) (dunderR op.info.2) = some rc) (hp : rc = none ∨ ∃ b : Addr, rc = some (.ref b))
    (hsub : PySem.W.subIn K (.type "int") (.ref C) = some false) (fills : fillsNumberSlot (.type "int") op.info.2 = pure true) (hi : PySem.W.findIn K (.type "int") (dunderR op.info.2) = some ro)
    (q : wpAny (model prog w) A (call (.ref f) [.ref x, .int i t]) (PySem.W.CmpBack Q) E s) : wpAny (model prog w) A (inplaceOp op (.ref x) (.int i t)) Q E s := by
  have tx := I.type (M := model prog w)
  have nf := no_inp (M := model prog w) (nm := op.info.2) (add := op == .Add) X hd hn
  unfold inplaceOp
  refine wpAny_holding (wpAny_bind (tx.here (wpAny_bind (nf.here ?_))))
  simp only [Bool.false_eq_true, if_false, pure_bind]
  refine wpAny_bind (fore_side X I hc hs hf hr hp hsub fills hi (wpAny_mono q (fun v s' z => ?_) fun _ _ z => z))
  cases v <;> first | exact z.elim | exact wpAny_pure z
end
section
variable {X : Cx} {CX : CXT} {k : Nat} {f g C : Addr} {fd : FuncData} {ps : List Str} {sp : Sp} {E : XK} {op : Operator} {idl : String}
/-- i op o, i a whole number, o an own object -/
def rBackI (C : Addr) (sp : Sp) (E : XK) : R2 := fun x y H Q => ∃ (a dx : Addr) (fs : List (Str × V)) (i : Int), y = .ref a ∧ H a = some (.ins C dx fs) ∧ x = .int i ∧ sp [.ref a, .int i] H Q E
/-- what the class has for an operator from behind -/
structure BackAt (K : PySem.W.Frag) (C f g : Addr) (op : Operator) (idl : String) : Prop where
  first : PySem.W.selfFirst K C = true
  own : PySem.W.findIn K (.ref C) (PySem.dunder op.info.2) = some (some (.ref f))
  back : PySem.W.findIn K (.ref C) (dunderR op.info.2) = some (some (.ref g))
  fn : PySem.W.isFn K (.ref g) = true
  sub : PySem.W.subIn K (.ref C) (.type "int") = some false
  fills : fillsNumberSlot (.type "int") op.info.2 = pure true
  nay : Nay op idl
/-- what the class has for an in-place form -/
structure InAt (K : PySem.W.Frag) (C f : Addr) (op : Operator) : Prop extends OpAt K C f op where
  none_ : ∃ cd, PySem.W.clsIn K C = some cd ∧ ∀ c ∈ cd.mro, PySem.W.findIn K c (dunderI op.info.2) = some none
  fills : fillsNumberSlot (.type "int") op.info.2 = pure true
theorem op_backI (O : BackAt X.K C f g op idl) (F : Gd X.prog X.w X.K X.mg X.base CX k g fd ps sp) (rm : Room k X.A) (gd : X.A.guards = some []) (hb : Binds X.K fd ps []) (hx : Passes CX X E) : OpR X (binaryOp op) (rBackI C sp E) := by
  intro pins s σ H x y v u Q I rx ry h
  obtain ⟨a, dx, fs, i, rfl, ea, rfl, q⟩ := h
  obtain ⟨t, rfl⟩ := rx
  obtain rfl : u = Value.ref a := ry
  obtain ⟨mA, J, _⟩ := ins_get I.hok ea
  obtain ⟨od, J, _⟩ := J.look
  have r2 : Vals [V.ref a, .int i] [Value.ref a, .int i t] := .cons rfl (.cons ⟨t, rfl⟩ .nil)
  have bt := bind_pos (dvs := []) (vs := [V.ref a, .int i]) F hb .nil I.kIn r2 q
  refine back_side I.kIn J O.first O.own O.back O.fn O.sub O.fills O.nay ?_
  refine wpAny_mono (run_g (us := [.ref a, .int i t]) F rm gd hx I bt r2 q) (fun v s' hv => ?_) fun _ _ z => z
  have rv : ∃ z, RelV z v := let ⟨z, _, _, rz, _⟩ := hv; ⟨z, rz⟩
  exact rv.elim fun z rz => SlX.cmpback rz hv
theorem op_inI (O : InAt X.K C f op) (F : Gd X.prog X.w X.K X.mg X.base CX k f fd ps sp) (rm : Room k X.A) (gd : X.A.guards = some []) (hb : Binds X.K fd ps []) (hx : Passes CX X E) : OpR X (inplaceOp op) (rOwnI C sp E) := by
  intro pins s σ H x y v u Q I rx ry h
  obtain ⟨a, dx, fs, i, rfl, ea, rfl, q⟩ := h
  obtain rfl : v = Value.ref a := rx
  obtain ⟨t, rfl⟩ := ry
  obtain ⟨mA, J, _⟩ := ins_get I.hok ea
  obtain ⟨od, J, _⟩ := J.look
  obtain ⟨rc, hr, hp⟩ := O.refl
  obtain ⟨ro, h2⟩ := O.int2
  obtain ⟨cd, hc, hn⟩ := O.none_
  have r2 : Vals [V.ref a, .int i] [Value.ref a, .int i t] := .cons rfl (.cons ⟨t, rfl⟩ .nil)
  have bt := bind_pos (dvs := []) (vs := [V.ref a, .int i]) F hb .nil I.kIn r2 q
  refine inp_side I.kIn J O.first hc hn O.own O.fn hr hp O.sub O.fills h2 ?_
  refine wpAny_mono (run_g (us := [.ref a, .int i t]) F rm gd hx I bt r2 q) (fun v s' hv => ?_) fun _ _ z => z
  have rv : ∃ z, RelV z v := let ⟨z, _, _, rz, _⟩ := hv; ⟨z, rz⟩
  exact rv.elim fun z rz => SlX.cmpback rz hv
/-- ~o, o an own object -/
def rInvO (C : Addr) (sp : Sp) (E : XK) : V → Hp → VK → Prop := fun x H Q => ∃ (a dx : Addr) (fs : List (Str × V)), x = .ref a ∧ H a = some (.ins C dx fs) ∧ sp [.ref a] H Q E
theorem un_inv (O : PySem.W.findIn X.K (.ref C) "__invert__" = some (some (.ref f))) (fn : PySem.W.isFn X.K (.ref f) = true) (F : Gd X.prog X.w X.K X.mg X.base CX k f fd ps sp) (rm : Room k X.A) (gd : X.A.guards = some []) (hb : Binds X.K fd ps []) (hx : Passes CX X E) : UnR X (unaryOp .Invert) (rInvO C sp E) := by
  intro pins s σ H x v Q I rx h
  obtain ⟨a, dx, fs, rfl, ea, q⟩ := h
  obtain rfl : v = Value.ref a := rx
  obtain ⟨mA, J, _⟩ := ins_get I.hok ea
  obtain ⟨od, J, _⟩ := J.look
  obtain ⟨m, fr⟩ := I.fr
  have r2 : Vals [V.ref a] [Value.ref a] := .cons rfl .nil
  have bt := bind_pos (dvs := []) (vs := [V.ref a]) F hb .nil I.kIn r2 q
  exact PySem.W.ksp_inv fr I.ok.mod.kin J O fn (wpAny_mono (run_g (us := [.ref a]) F rm gd hx I bt r2 q) (fun v s' hv => hv) fun _ _ z => z)
theorem w_backO {a dx : Addr} {fs : List (Str × V)} {i : Int} {H : Hp} {Q : VK} (h : H a = some (.ins C dx fs)) (q : sp [.ref a, .int i] H Q E) : rBackI C sp E (.int i) (.ref a) H Q := ⟨a, dx, fs, i, rfl, h, rfl, q⟩
theorem w_invO {a dx : Addr} {fs : List (Str × V)} {H : Hp} {Q : VK} (h : H a = some (.ins C dx fs)) (q : sp [.ref a] H Q E) : rInvO C sp E (.ref a) H Q := ⟨a, dx, fs, rfl, h, q⟩
end
end KG

set_option Elab.async false
set_option linter.all false
set_option maxRecDepth 100000
set_option maxHeartbeats 1000000
/-! KQ: properties and classmethods whose defs are known where nothing is being shown. -/
namespace KG
open PySem PySem.Spec PySem.Calls PyProof.Rows L2
section
variable {X : Cx} {CX : CXT} {k : Nat} {C p g : Addr} {mc : Value} {fd : FuncData} {ps : List Str} {sp : Sp} {E : XK} {o e : Expr} {es : List Expr} {m : Str} {pos apos : Pos} {ta : TE} {t : TA}
/-- o.m, a property -/
theorem pe_gprop (he : PE X o ta) (c : Cls X.K C) (P : PropOf X.K C m p g) (F : Gd X.prog X.w X.K X.mg X.base CX k g fd ps sp) (rm : Room (k + 1) X.A) (gd : X.A.guards = some []) (hb : Binds X.K fd ps []) (hx : Passes CX X.nox E)
    (ab : attributeBase o m X.env (eval o X.env) = eval o X.env := by rfl) : PE X (.Attribute o m pos) (tProp C sp [] E ta) := by
  refine ⟨fun pins s σ H Q I z => attr_of ab (thn (he.run pins s σ H _ I z) fun u s1 z1 => ?_)⟩
  obtain ⟨_, H1, J, ru, a, dx, fs, rfl, ea, q⟩ := z1
  obtain rfl : u = Value.ref a := ru
  obtain ⟨mA, O, _⟩ := ins_get J.hok ea
  obtain ⟨od, O, _⟩ := O.look
  obtain ⟨tail, isP⟩ := P.rec_
  have isC : (PySem.W.clsIn X.K C).isSome = true := let ⟨_, w, _⟩ := PySem.W.any_some c.hd; w ▸ rfl
  have J1 := J.tok (s1.toks + 1)
  have pg := PySem.W.plainGet_of (c.get m)
  refine PySem.W.get_bind J.kIn O pg.1 (PySem.W.findObj_data isC P.at_ P.get P.tak) pg.2 (wpAny_call (PySem.W.prop_get (s := { s1 with toks := s1.toks + 1 }) J.kIn isP ?_))
  have r1 : Vals [V.ref a] [Value.ref a] := .cons rfl .nil
  have bt := bind_pos (dvs := []) (vs := [V.ref a]) F hb .nil J1.kIn r1 q
  refine codeAny_mono (F.go X.A.in1 X.stack { s1 with toks := s1.toks + 1 } H1 ⟨[.ref a], []⟩ _ _ Q E rm.in1 gd J1.env0.in1 bt r1 q) fun out s2 z2 => ?_
  match out, z2 with
  | .error er, z2 => exact (hx pins σ H1 { s1 with toks := s1.toks + 1 } er s2 (J1.wish _) z2).elim
  | .ok (.ret u), z2 =>
    obtain ⟨v, H2, J2, rv, q2⟩ := J1.after z2
    show wpAny _ _ (handedOut u) _ _ _
    rw [PySem.W.handedOut_of (handed_of rv)]
    exact wpAny_pure ⟨v, H2, J2, rv, q2⟩
/-- o.m(e, ..), o the class, m a classmethod -/
theorem pe_gcm {pl : Sem Bool} (he : PE X o ta) (r : ClX.CRead X.K C mc) (c : ClX.CMet X.K C mc m p g) (F : Gd X.prog X.w X.K X.mg X.base CX k g fd ps sp) (rm : Room k X.A) (gd : X.A.guards = some []) (hb : Binds X.K fd ps []) (hx : Passes CX X E) (ha : PA X (e :: es) t)
    (hst : starEach (e :: es) X.env = (false, eval e X.env) :: starEach es X.env := by rfl) (hpl : (backTo pos (starEach es X.env)).any (·.1) = false := by rfl)
    (ht : eval (.Call (.Attribute o m apos) (e :: es) [] pos) X.env = (do
      let w ← eval o X.env
      standAt apos.atName
      let (g, a) ← holding [w] (getMethod w m pl)
      callWith pos g a (backTo pos (starEach (e :: es) X.env)) (backToKw pos (keywordEach [] X.env))) := by rfl) :
    PE X (.Call (.Attribute o m apos) (e :: es) [] pos) (ClX.tCMeth C sp E ta t) := by
  refine ⟨fun pins s σ H Q I z => PySem.W.methodCall_KW (pl := pl) (thn (he.run pins s σ H _ I z) fun u s1 z1 => ?_) ht⟩
  obtain ⟨_, H1, J, ru, rfl, q⟩ := z1
  obtain rfl : u = Value.ref C := ru
  refine ClX.getmethcm_ok J r c fun s2 J2 => ClX.callwith_cm J2 (ClX.base_none J (Nat.le_refl _)) c.fi (thn (ha.run pos _ s2 σ H1 _ J2 q) fun us s3 z3 => ?_) hst hpl
  obtain ⟨vs, H2, J3, rv, q2⟩ := z3
  have r1 : Vals (V.ref C :: vs) (Value.ref C :: us) := .cons rfl rv
  have bt := bind_pos (dvs := []) (vs := V.ref C :: vs) F hb .nil J3.kIn r1 (by rw [List.append_nil]; exact q2)
  refine ⟨⟨ClX.pin_at J3, J3.kIn⟩, ?_⟩
  have run : wpAny (model X.prog X.w) X.A (call (.ref s1.heap.objs.size) us) (EP X ((s1.heap.objs.size, PySem.W.methodObj (.ref g) (.ref C)) :: pins) σ Q) X.xe s3 := by
    refine wpAny_call (PySem.W.method_call (ClX.pin_at J3) (codeAny_mono (F.go X.A X.stack s3 H2 ⟨.ref C :: us, []⟩ _ _ _ E rm gd J3.env0 bt (by rw [List.append_nil]; exact r1) q2) fun out s4 z4 => ?_))
    match out, z4 with
    | .error er, z4 => exact hx _ σ H2 s3 er s4 J3 z4
    | .ok (.ret v), z4 => exact J3.after z4
  exact thn run fun _ _ y => ClX.unpinE y
/-- x(e, ..), x a place that holds the class -/
def tMakeV (C : Addr) (sp : Sp) (dvs : List V) (E : XK) (n : Nat) (ta : TA) : TE := fun σ H Q => σ[n]? = some (some (.ref C)) ∧ ta σ H fun vs H1 => Make C sp (fun z => z :: (vs ++ dvs)) E H1 Q
theorem pe_gmakeV {f : Addr} {x : Str} {n : Nat} {ds : List Value} {dvs : List V} (M : Mk X.K C f) (F : Gd X.prog X.w X.K X.mg X.base CX k f fd ps sp) (rm : Room (k + 1) X.A) (gd : X.A.guards = some []) (hv : PE X (.Name x apos) (tVar n)) (hb : Binds X.K fd ps ds) (hd : Vals dvs ds) (hx : Passes CX X E) (ha : PA X (e :: es) t)
    (hst : starEach (e :: es) X.env = (false, eval e X.env) :: starEach es X.env := by rfl) (hpl : (backTo pos (starEach es X.env)).any (·.1) = false := by rfl) : PE X (.Call (.Name x apos) (e :: es) [] pos) (tMakeV C sp dvs E n t) := by
  refine ⟨fun pins s σ H Q I z => ?_⟩
  obtain ⟨ec, q⟩ := z
  refine wpAny_Call_Name_kw (thn (hv.run pins s σ H (fun v H' => v = .ref C ∧ t σ H' fun vs H1 => Make C sp (fun z => z :: (vs ++ dvs)) E H1 Q) I ⟨_, ec, rfl, q⟩) fun u s1 z1 => ?_)
  obtain ⟨_, H1, J, ru, rfl, q1⟩ := z1
  obtain rfl : u = Value.ref C := ru
  refine PySem.W.callWith_K (h₀ := X.base) I.ok.mod.kin M.kp (thn (ha.run pos pins s1 σ H1 _ J q1) fun us s2 z2 => ?_) hst hpl
  obtain ⟨vs, H2, J2, rv, q2⟩ := z2
  have all : ∀ y : Addr, Vals (V.ref y :: vs ++ dvs) (Value.ref y :: us ++ ds) := fun y => .cons rfl (rv.append hd)
  have many : ∀ y : Addr, (Value.ref y :: us ++ ds).length = ps.length := fun y => by
    rw [← (all y).length, ← F.len _ _ _ _ (q2 (s2.heap.objs.size + 1) s2.heap.objs.size (J2.hok.fresh (Nat.le_succ _)) (J2.hok.fresh (Nat.le_refl _)) (Nat.ne_of_lt (Nat.lt_succ_self _)))]
    rfl
  exact ⟨J2.kIn, run_gmake (fun y => y :: us ++ ds) (fun y => y :: vs ++ dvs) M F rm gd (fun s y KX => hb s (.ref y :: us) KX (many y)) all hx J2 q2⟩
end
end KG

set_option Elab.async false
set_option linter.all false
set_option maxRecDepth 100000
set_option maxHeartbeats 1000000
/-! KU: methods whose text says super().m(..). -/
namespace KG
open PySem PySem.Spec PySem.Calls PyProof.Rows L2
open PySem.W (ksFn ksEnv)

/-- the scope of a method that says super() -/
structure ScS (N ps : List Str) (sc : Scope) : Prop where
  kind : sc.kind = .function
  co : sc.isCoroutine = false
  gen : sc.isGenerator = false
  pre : N.take ps.length = ps
  nd : ps.Nodup
  par : ∀ x ∈ ps, sc.names.lookup x = some .local
  nocell : ∀ y ∈ sc.names, y.2 ≠ .cell
  free : ∀ y ∈ sc.names, y.2 = .free → y.1 = ("__class__" : Str)
  sup : sc.names.lookup ("super" : Str) = some .globalImplicit
  cl : sc.names.lookup ("__class__" : Str) = some .free

/-- what is written of such a method: where its code lies, its class -/
structure SupF (prog : Program) (K : PySem.W.Frag) (f D : Addr) (cda cc : Addr) (fd : FuncData) : Prop where
  lkF : ∃ oc od osl, K.lookup f = some ⟨oc, od, .func fd, osl⟩
  lkC : ∃ (ccl : Value) (cdd : Option Addr) (vs : Array Value) (ccs : Array (Option Value)) (file : Str) (tf : Tok), K.lookup cda = some ⟨ccl, cdd, .fields vs, ccs⟩ ∧ vs[2]? = some (.str file tf) ∧ ((prog.main.file : Str) == file) = true
  lkCell : ∃ (cl : Value) (cld : Option Addr) (csl : Array (Option Value)), K.lookup cc = some ⟨cl, cld, .cell (some (.ref D)), csl⟩
  cls : ∃ cd, PySem.W.clsIn K D = some cd
  opq : PySem.W.nsIn K cStatics "thirdparty.any" = some none
  nosup : PySem.W.nsIn K mainGlobals "super" = some none
  top : (prog.main.scope.names.lookup ("super" : Str)).isSome = false
structure FunS (prog : Program) (K : PySem.W.Frag) (x qual : Str) (st : Stmt) (f D : Addr) (fd : FuncData) : Prop where
  ex : ∃ (dV kV doc pm ct : Value) (an : Option Addr) (cda cc : Addr), fd = ksFn x qual (defArgs st) (defBody st) (defScope st) dV kV doc pm an (.ref cda) ct cc ∧ PySem.W.codeIn K (.ref cda) qual = true ∧ SupF prog K f D cda cc fd
  kp : PySem.W.keepIn K (.ref f) = true

/-- the frame of such a method -/
def cxS (P : Program) (w : World) (K : PySem.W.Frag) (mg : Str → Option Value) (base : Heap) (N : List Str) (qual : Str) (scope : Scope) (f cda cc : Addr) (A : Around) (outer : List Env) (s : Shared) (H : Hp) (E : XK) : Cx :=
  { prog := P, w := w, K := K, mg := mg, base := base, A := A.deeper (ksEnv qual scope s.heap.objs.size f (.ref cda) cc), N := N, s_0 := s, H_0 := H,
    env := ksEnv qual scope s.heap.objs.size f (.ref cda) cc, outer := outer, stack := ksEnv qual scope s.heap.objs.size f (.ref cda) cc :: outer, ex := [], fn := fun x => !(x == ("__class__" : Str)), calm := true, pn := [],
    xe := fun e s' => wpAny (model P w) (A.deeper (ksEnv qual scope s.heap.objs.size f (.ref cda) cc)) (leaving (ksEnv qual scope s.heap.objs.size f (.ref cda) cc) e) (fun _ s'' => L2.CX P w outer H s E e s'') (fun e' s'' => L2.CX P w outer H s E e' s'') s' }
section
variable {P : Program} {w : World} {K : PySem.W.Frag} {mg : Str → Option Value} {base : Heap} {N ps : List Str} {qual : Str} {sc : Scope} {f cda cc D : Addr} {A : Around} {outer : List Env} {s s1 : Shared} {H : Hp} {E : XK}
theorem takes_S : Takes (cxS P w K mg base N qual sc f cda cc A outer s H E) (fun cls d _ H => E cls d H) := takes_of rfl rfl rfl rfl
theorem pass_S : Passes (L2.CX P w) (cxS P w K mg base N qual sc f cda cc A outer s H E) E := passes_call takes_S fun _ _ _ _ h => h
theorem own_S : PassesOwn (model P w) (cxS P w K mg base N qual sc f cda cc A outer s H E).A (cxS P w K mg base N qual sc f cda cc A outer s H E).env (cxS P w K mg base N qual sc f cda cc A outer s H E).xe := passes_of rfl

theorem paired_get {R : V → Value → Prop} : ∀ {vs : List V} {us : List Value} {i : Nat} {v : V}, Paired R vs us → vs[i]? = some v → ∃ u, us[i]? = some u ∧ R v u
  | _ :: _, _ :: _, 0, _, .cons a _, e => by cases e; exact ⟨_, rfl, a⟩
  | _ :: _, _ :: _, i + 1, _, .cons _ b, e => paired_get (i := i) b e
theorem lk_nd {x : Str} {u : Value} : ∀ {l : List (Str × Value)}, (l.map (·.1)).Nodup → (x, u) ∈ l → l.lookup x = some u
  | (y, v) :: t, nd, h => by
    rcases List.mem_cons.mp h with e | h
    · cases e
      simp [List.lookup]
    · have nd' : y ∉ t.map (·.1) ∧ (t.map (·.1)).Nodup := List.nodup_cons.mp nd
      have ne : x ≠ y := fun z => nd'.1 (z ▸ List.mem_map_of_mem (f := (·.1)) h)
      rw [List.lookup, beq_eq_false_iff_ne.mpr ne]
      exact lk_nd nd'.2 h
theorem lk_mem {k : NameKind} {x : Str} : ∀ {l : List (Str × NameKind)}, l.lookup x = some k → (x, k) ∈ l
  | (y, v) :: t, h => by
    by_cases e : x = y
    · subst e
      simp [List.lookup] at h
      rw [h]
      exact List.mem_cons_self
    · rw [List.lookup, beq_eq_false_iff_ne.mpr e] at h
      exact List.mem_cons_of_mem _ (lk_mem h)
theorem zip_get : ∀ {ps : List Str} {us : List Value} {i : Nat} {x : Str} {u : Value}, ps[i]? = some x → us[i]? = some u → (x, u) ∈ ps.zip us
  | _ :: _, _ :: _, 0, _, _, h, h' => by cases h; cases h'; exact List.mem_cons_self
  | _ :: _, _ :: _, i + 1, _, _, h, h' => List.mem_cons_of_mem _ (zip_get (i := i) h h')

theorem invS_start {us : List Value} {vs : List V} (S : ScS N ps sc) (hd : A.handled = none) (e0 : Env0 P w K mg base A outer s H) (len : vs.length = ps.length) (rv : Vals vs us)
    (hcc : ∃ (cl : Value) (cld : Option Addr) (csl : Array (Option Value)), K.lookup cc = some ⟨cl, cld, .cell (some (.ref D)), csl⟩)
    (ns : s1.heap.Ns s.heap.objs.size fun y => (ps.zip us).reverse.lookup y) (kp : ∀ b o, s.heap.get? b = some o → s1.heap.get? b = some o) (hos : s1.os = s.os) (hg : s1.gens = s.gens) :
    Inv (cxS P w K mg base N qual sc f cda cc A outer s H E) [] (start N vs) H s1 := by
  obtain ⟨cl, cld, csl, hcc⟩ := hcc
  have kb := e0.mod.kin _ _ hcc
  have fc : ∀ {x : Str} {c : Addr}, List.lookup x [(("__class__" : Str), cc)] = some c → x = "__class__" ∧ c = cc := fun {x c} h => by
    by_cases e : x = "__class__"
    · subst e
      simp [List.lookup] at h
      exact ⟨rfl, h.symm⟩
    · rw [List.lookup, beq_eq_false_iff_ne.mpr e] at h
      cases h
  refine ⟨?_, hos, by rw [hg]; exact e0.bare, Un.kept kp, ⟨_, ns, ?_⟩, ?_, e0.hok.fresh (Nat.le_refl _), ?_, (fun _ h => nomatch h), e0.hok.kept kp, ?_⟩
  · exact {
      mod := e0.mod
      kind := S.kind
      glob := rfl
      blt := rfl
      above := Nat.le_refl _
      inj := fun x y c h1 h2 => (fc h1).1.trans (fc h2).1.symm
      has := fun x h => by
        rcases h with h | h
        · exact absurd rfl (S.nocell (x, .cell) (lk_mem h))
        · rw [show x = _ from S.free _ (lk_mem h) rfl]
          exact ⟨cc, by simp [cxS, ksEnv, PySem.W.envX, List.lookup]⟩
      cab := fun x c h1 h2 => by
        rw [(fc h2).1] at h1
        cases h1
      hd := fun _ => hd
      frames := by
        show Option.map _ A.frames = _
        rw [e0.frames]
        rfl
      stk := .inr ⟨rfl, rfl⟩
      exf := fun _ h => nomatch h
      bs := e0.bs
      bsz := e0.bsz
      noex := fun _ _ _ h => nomatch h
      exfs := fun _ h => nomatch h
      funs := e0.funs
      frf := e0.frf }
  · intro i x v hx hs vis
    have hx : N[i]? = some x := hx
    have hv : vs[i]? = some v := by
      unfold L2.start at hs
      by_cases lt : i < vs.length
      · rw [List.getElem?_append_left (by simpa using lt), List.getElem?_map] at hs
        obtain ⟨v', h1, h2⟩ := Option.map_eq_some_iff.mp hs
        cases h2
        exact h1
      · rw [List.getElem?_append_right (by simpa using lt), List.getElem?_replicate] at hs
        split at hs <;> cases hs
    obtain ⟨u, hu, ru⟩ := paired_get rv hv
    have lt : i < ps.length := len ▸ (List.getElem?_eq_some_iff.mp hv).1
    have hp : ps[i]? = some x := by
      rw [← S.pre, List.getElem?_take_of_lt lt]
      exact hx
    have lenU : ps.length ≤ us.length := by rw [← len, rv.length]; exact Nat.le_refl _
    refine ⟨u, ru, .inl ⟨S.par x (List.mem_of_getElem? hp), ?_⟩⟩
    refine lk_nd ?_ (List.mem_reverse.mpr (zip_get hp hu))
    rw [List.map_reverse]
    refine List.pairwise_reverse.mpr ?_
    show ((ps.zip us).map Prod.fst).Pairwise _
    rw [List.map_fst_zip lenU]
    exact S.nd.imp Ne.symm
  · intro x c h
    rw [(fc h).2]
    exact ⟨_, _, kp _ _ (e0.bs _ _ kb).1, rfl⟩
  · intro x c h
    rw [(fc h).2]
    exact (e0.bs _ _ kb).2
  · show (List.map some vs ++ List.replicate (N.length - vs.length) none).length = N.length
    have : ps.length ≤ N.length := by
      rw [← S.pre, List.length_take]
      exact Nat.min_le_right _ _
    simp
    omega

/-- such a method by its body -/
theorem gdS_of {k : Nat} {x : Str} {st : Stmt} {fd : FuncData} {sp : Sp} (F : FunS P K x qual st f D fd) (S : ScS N ps (defScope st)) (len : ∀ vs H Q E, sp vs H Q E → vs.length = ps.length)
    (inner : ∀ (cda cc : Addr) (A : Around) (outer : List Env) (s s1 : Shared) (H : Hp) (vs : List V) (Q : VK) (E : XK),
      Room k (cxS P w K mg base N qual (defScope st) f cda cc A outer s H E).A → (cxS P w K mg base N qual (defScope st) f cda cc A outer s H E).A.guards = some [] → sp vs H Q E →
      (∃ (dV kV doc pm ct : Value) (an : Option Addr), SupF P K f D cda cc (ksFn x qual (defArgs st) (defBody st) (defScope st) dV kV doc pm an (.ref cda) ct cc)) →
      Inv (cxS P w K mg base N qual (defScope st) f cda cc A outer s H E) [] (start N vs) H s1 →
      PySem.wpAt (model P w) (cxS P w K mg base N qual (defScope st) f cda cc A outer s H E).A (.func (defBody st) (cxS P w K mg base N qual (defScope st) f cda cc A outer s H E).env) (execs (defBody st) (cxS P w K mg base N qual (defScope st) f cda cc A outer s H E).env)
        (SP (cxS P w K mg base N qual (defScope st) f cda cc A outer s H E) [] { nx := fun _ H' => Q .non H', rt := Q }) (cxS P w K mg base N qual (defScope st) f cda cc A outer s H E).xe s1) :
    Gd P w K mg base (L2.CX P w) (k + 1) f fd ps sp := by
  obtain ⟨dV, kV, doc, pm, ct, an, cda, cc, rfl, code, SF⟩ := F.ex
  refine ⟨len, fun A outer s H args us vs Q E rm gd e0 bt rv q0 => ?_⟩
  have llen := len _ _ _ _ q0
  have kin : K.In s.heap := e0.mod.kin.keeps fun b o e => (e0.bs b o e).1
  have nolim : s.heap.NoLimit := e0.mod.nolimit.keeps fun b o e => (e0.bs b o e).1
  obtain ⟨oc, od, osl, lkF⟩ := SF.lkF
  refine ks_codeAny_call_defAt (body := defBody st) (binds := ps.zip us) rm.depth (kin _ _ lkF) rfl nolim (PySem.W.codeRec_of kin code) rfl bt S.nocell (fun y hy => S.par _ (List.of_mem_zip hy).1) (fun h1 ns1 kp1 => ?_) S.co S.gen S.kind
  have I := invS_start (E := E) (cda := cda) (cc := cc) (f := f) (qual := qual) (s1 := ⟨h1, s.gens, s.drawn, s.toks + (ps.zip us).length, s.os⟩) S rm.hd e0 llen rv SF.lkCell ns1 kp1 rfl rfl
  refine ks_wpAt_mono (inner cda cc A outer s _ H vs Q E (rm.deeper _) gd q0 ⟨dV, kV, doc, pm, ct, an, SF⟩ I) (fun fl s' hs => ?_) fun e s' hs => hs
  have done : ∀ {σ' : L2.St} {H' : Hp} {v : V} {u : Value}, Inv (cxS P w K mg base N qual (defScope st) f cda cc A outer s H E) [] σ' H' s' → RelV v u → Q v H' → CE outer P w H s Q u s' :=
    fun {σ' H' v u} J r q => ⟨v, H', J.os, J.bare, J.base, J.hok, r, q⟩
  cases fl with
  | ret u =>
    obtain ⟨v, σ', H', J, r, q⟩ := hs
    exact done J r q
  | next =>
    obtain ⟨σ', H', J, q⟩ := hs
    exact done (v := V.non) (u := Value.none) J rfl q
  | brk => exact hs.elim fun _ h => h.elim fun _ h => False.elim h.2
  | cont => exact hs.elim fun _ h => h.elim fun _ h => False.elim h.2

/-- where super() of an object of class C, asked in a method of class D, finds m -/
structure UpAt (K : PySem.W.Frag) (C D : Addr) (m : Str) (g : Addr) : Prop where
  isub : PySem.W.mroIn K C (.ref D) = some true
  up : PySem.W.ks_superIn K C D m = some (some (.ref g))
  fn : PySem.W.isFn K (.ref g) = true
  fi : PySem.W.fnIn K g = true

/-- super().m, up to the bound method -/
theorem sup_get {x : Str} {st : Stmt} {dV kV doc pm ct : Value} {an : Option Addr} {s0 : Shared} {H0 : Hp} {pins : List (Addr × Obj)} {σ : L2.St} {H1 : Hp} {s : Shared} {C dx a g : Addr} {fs : List (Str × V)} {m : Str} {p0 p1 p2 p3 : Pos} {es : List Expr} {pl : Sem Bool} {EX : Value → Shared → Prop} {body : List Stmt} {R : Value → Shared → Prop}
    (S : ScS N ps sc) (SF : SupF P K f D cda cc (ksFn x qual (defArgs st) (defBody st) sc dV kV doc pm an (.ref cda) ct cc)) (hpar : ((defArgs st).posonlyargs ++ (defArgs st).args).head?.map (·.arg) = some ("self" : Str))
    (hN : N[0]? = some ("self" : Str)) (hself : sc.names.lookup ("self" : Str) = some .local) (hm : (m == ("__class__" : Str)) = false)
    (hev : eval (.Call (.Attribute (.Call (.Name "super" p0) [] [] p1) m p2) es [] p3) (cxS P w K mg base N qual sc f cda cc A outer s0 H0 E).env = (do
      let ov ← attributeBase (.Call (.Name "super" p0) [] [] p1) m (cxS P w K mg base N qual sc f cda cc A outer s0 H0 E).env (eval (.Call (.Name "super" p0) [] [] p1) (cxS P w K mg base N qual sc f cda cc A outer s0 H0 E).env)
      standAt p2.atName
      let (fv, first) ← holding [ov] (getMethod ov m pl)
      callWith p3 fv first (backTo p3 (starEach es (cxS P w K mg base N qual sc f cda cc A outer s0 H0 E).env)) []))
    (I : Inv (cxS P w K mg base N qual sc f cda cc A outer s0 H0 E) pins σ H1 s) (hσ : σ[0]? = some (some (.ref a))) (ha : H1 a = some (.ins C dx fs)) (U : UpAt K C D m g)
    (nx : ∀ (q : Addr) (s2 : Shared), base.get? q = none → Inv (cxS P w K mg base N qual sc f cda cc A outer s0 H0 E) ((q, PySem.W.methodObj (.ref g) (.ref a)) :: pins) σ H1 s2 →
      wpAny (model P w) (cxS P w K mg base N qual sc f cda cc A outer s0 H0 E).A (callWith p3 (.ref q) [] (backTo p3 (starEach es (cxS P w K mg base N qual sc f cda cc A outer s0 H0 E).env)) []) R EX s2) :
    PySem.wpAt (model P w) (cxS P w K mg base N qual sc f cda cc A outer s0 H0 E).A (.func body (cxS P w K mg base N qual sc f cda cc A outer s0 H0 E).env)
      (eval (.Call (.Attribute (.Call (.Name "super" p0) [] [] p1) m p2) es [] p3) (cxS P w K mg base N qual sc f cda cc A outer s0 H0 E).env) R EX s := by
  obtain ⟨oc, od, osl, lkF⟩ := SF.lkF
  obtain ⟨ccl, cdd, vs, ccs, file, tf, lkC, hvs, hfile⟩ := SF.lkC
  obtain ⟨cl, cld, csl, lkCell⟩ := SF.lkCell
  obtain ⟨cd, hcd⟩ := SF.cls
  have kin : K.In s.heap := I.kIn
  have mod := I.mod
  obtain ⟨mb, nsb0, mbb⟩ := mod.blt
  have nsm := mod.glob.keeps I.bk
  have nsb := nsb0.keeps I.bk
  obtain ⟨ar, har, harg⟩ : ∃ ar, ((defArgs st).posonlyargs ++ (defArgs st).args).head? = some ar ∧ ar.arg = ("self" : Str) := by
    cases z : ((defArgs st).posonlyargs ++ (defArgs st).args).head? with
    | none => rw [z] at hpar; cases hpar
    | some ar => rw [z] at hpar; exact ⟨ar, rfl, Option.some.inj hpar⟩
  obtain ⟨oD, hD, hDd⟩ : ∃ oD, K.lookup D = some oD ∧ oD.data = .cls cd := by
    unfold PySem.W.clsIn at hcd
    split at hcd
    · rename_i e
      cases hcd
      exact ⟨_, e, rfl⟩
    · cases hcd
  obtain ⟨mA, O, _⟩ := ins_get I.hok ha
  obtain ⟨odx, O, _⟩ := O.look
  refine ks_wpAt_MethodCall (ks_wpAt_super_base S.sup S.cl hm rfl (kin _ _ lkF) rfl har rfl (kin _ _ lkC) rfl hvs hfile SF.top ?_) hev
  refine PySem.W.ks_loadName_global S.kind S.sup (loadGlobal_builtin nsm (PySem.W.mg_none_of kin nsm SF.nosup) nsb ((mbb _ (by decide +kernel)).trans (by decide +kernel)) ⟨rfl, ?_⟩)
  refine wpAny_loadName_free S.kind S.cl rfl ⟨_, kin _ _ lkCell, rfl⟩ ?_
  rw [harg]
  obtain ⟨mm, nsL, hl⟩ := I.loc
  obtain ⟨u, ru, lk⟩ := hl 0 "self" (.ref a) hN hσ (.inl hself)
  obtain rfl : u = Value.ref a := ru
  have lk : mm "self" = some (.ref a) := by
    rcases lk with lk | ⟨lk, _⟩
    · exact lk.2
    · exfalso
      have hs : Env.kindOf (cxS P w K mg base N qual sc f cda cc A outer s0 H0 E).env "self" = some .local := hself
      rw [hs] at lk
      rcases lk with lk | lk <;> cases lk
  refine wpAny_loadName_local S.kind hself nsL lk ?_
  have hD1 := kin _ _ hD
  refine ks_wpAny_isType_cls hD1 hDd ⟨rfl, ?_⟩
  refine ks_wpAny_call_super hD1 hDd O.at_ O.cls (fun c z => by have := O.no; unfold PySem.W.notCls at this; rw [z] at this; cases this) (PySem.W.looks_mroIn kin U.isub) (fun h2 eso kp2 => ?_)
  have J2 := I.kept (t' := s.toks) kp2
  have kin2 : K.In h2 := kin.keeps kp2
  have sup := U.up
  unfold PySem.W.ks_superIn at sup
  obtain ⟨cdC, hcl, sup⟩ := Option.bind_eq_some_iff.mp sup
  obtain ⟨og, hog, hgc⟩ : ∃ og, K.lookup g = some og ∧ og.cls = .type "function" := by
    have hg : (Option.map (fun x => Obj.cls x) (K.lookup g) == some (.type "function")) = true := U.fn
    cases z : K.lookup g with
    | none => rw [z] at hg; cases hg
    | some og =>
      rw [z] at hg
      exact ⟨og, rfl, by simpa using hg⟩
  have nC : a ≠ C := fun z => by
    have hC : ∃ o, K.lookup C = some o := by
      unfold PySem.W.clsIn at hcl
      split at hcl
      · exact ⟨_, by assumption⟩
      · cases hcl
    obtain ⟨o, hC⟩ := hC
    have := (I.bs _ _ (I.ok.mod.kin _ _ hC)).2
    rw [← z, ha] at this
    cases this
  refine ks_wpAny_getMethod_super eso (PySem.W.looks_opaque kin2 SF.opq) (l₀ := cdC.mro) (fun A Q E s k q => wpAny_bind ((PySem.W.looks_clsIn kin2 hcl) A _ E s k (wpAny_pure q))) rfl kin2 sup (kin2 _ _ hog) hgc nC hm ?_
  exact nx _ _ (ClX.base_none J2 (Nat.le_refl _)) (ClX.met_new (g := g) (C := a) J2)

section
variable {x : Str} {st : Stmt} {dV kV doc pm ct : Value} {an : Option Addr} {s0 : Shared} {H0 : Hp} {pins : List (Addr × Obj)} {σ : L2.St} {H1 : Hp} {s : Shared} {C dx a g : Addr} {fs : List (Str × V)} {m : Str} {p0 p1 p2 p3 : Pos} {es : List Expr} {pl : Sem Bool} {body : List Stmt} {k : Nat} {fdg : FuncData} {psg : List Str} {sp : Sp} {Q : VK} {e : Expr} {t : TA}
/-- super().m() -/
theorem sup_run0 
    (S : ScS N ps sc) (SF : SupF P K f D cda cc (ksFn x qual (defArgs st) (defBody st) sc dV kV doc pm an (.ref cda) ct cc)) (hpar : ((defArgs st).posonlyargs ++ (defArgs st).args).head?.map (·.arg) = some ("self" : Str))
    (hN : N[0]? = some ("self" : Str)) (hself : sc.names.lookup ("self" : Str) = some .local) (hm : (m == ("__class__" : Str)) = false)
    (I : Inv (cxS P w K mg base N qual sc f cda cc A outer s0 H0 E) pins σ H1 s) (hσ : σ[0]? = some (some (.ref a))) (ha : H1 a = some (.ins C dx fs)) (U : UpAt K C D m g)
    (G : Gd P w K mg base (L2.CX P w) k g fdg psg sp) (hb : Binds K fdg psg []) (rm : Room k (cxS P w K mg base N qual sc f cda cc A outer s0 H0 E).A) (gd : (cxS P w K mg base N qual sc f cda cc A outer s0 H0 E).A.guards = some [])
    (q : sp [.ref a] H1 Q E)
    (hev : eval (.Call (.Attribute (.Call (.Name "super" p0) [] [] p1) m p2) [] [] p3) (cxS P w K mg base N qual sc f cda cc A outer s0 H0 E).env = (do
      let ov ← attributeBase (.Call (.Name "super" p0) [] [] p1) m (cxS P w K mg base N qual sc f cda cc A outer s0 H0 E).env (eval (.Call (.Name "super" p0) [] [] p1) (cxS P w K mg base N qual sc f cda cc A outer s0 H0 E).env)
      standAt p2.atName
      let (fv, first) ← holding [ov] (getMethod ov m pl)
      callWith p3 fv first (backTo p3 (starEach [] (cxS P w K mg base N qual sc f cda cc A outer s0 H0 E).env)) []) := by rfl) :
    PySem.wpAt (model P w) (cxS P w K mg base N qual sc f cda cc A outer s0 H0 E).A (.func body (cxS P w K mg base N qual sc f cda cc A outer s0 H0 E).env)
      (eval (.Call (.Attribute (.Call (.Name "super" p0) [] [] p1) m p2) [] [] p3) (cxS P w K mg base N qual sc f cda cc A outer s0 H0 E).env) (EP (cxS P w K mg base N qual sc f cda cc A outer s0 H0 E) pins σ Q) (cxS P w K mg base N qual sc f cda cc A outer s0 H0 E).xe s := by
  refine sup_get S SF hpar hN hself hm hev I hσ ha U fun q2 s2 bn J => PySem.W.callWith_M0 ⟨ClX.pin_at J, J.kIn⟩ U.fi ?_
  have r1 : Vals [V.ref a] [Value.ref a] := .cons rfl .nil
  have bt := bind_pos (dvs := []) (vs := [V.ref a]) G hb .nil J.kIn r1 q
  refine thn (Q := EP _ ((q2, PySem.W.methodObj (.ref g) (.ref a)) :: pins) σ Q) (wpAny_call (PySem.W.method_call (ClX.pin_at J) (codeAny_mono (G.go _ (ksEnv qual sc s0.heap.objs.size f (.ref cda) cc :: outer) s2 H1 ⟨[.ref a], []⟩ _ _ Q E rm gd J.env0 bt r1 q) fun out s4 z4 => ?_))) fun _ _ y => ClX.unpinE y
  match out, z4 with
  | .error er, z4 => exact pass_S _ σ H1 s2 er s4 J z4
  | .ok (.ret v), z4 => exact J.after z4
/-- super().m(e, ..) -/
theorem sup_run
    (S : ScS N ps sc) (SF : SupF P K f D cda cc (ksFn x qual (defArgs st) (defBody st) sc dV kV doc pm an (.ref cda) ct cc)) (hpar : ((defArgs st).posonlyargs ++ (defArgs st).args).head?.map (·.arg) = some ("self" : Str))
    (hN : N[0]? = some ("self" : Str)) (hself : sc.names.lookup ("self" : Str) = some .local) (hm : (m == ("__class__" : Str)) = false)
    (I : Inv (cxS P w K mg base N qual sc f cda cc A outer s0 H0 E) pins σ H1 s) (hσ : σ[0]? = some (some (.ref a))) (ha : H1 a = some (.ins C dx fs)) (U : UpAt K C D m g)
    (G : Gd P w K mg base (L2.CX P w) k g fdg psg sp) (hb : Binds K fdg psg []) (rm : Room k (cxS P w K mg base N qual sc f cda cc A outer s0 H0 E).A) (gd : (cxS P w K mg base N qual sc f cda cc A outer s0 H0 E).A.guards = some [])
    (hA : PA (cxS P w K mg base N qual sc f cda cc A outer s0 H0 E) (e :: es) t) (q : t σ H1 fun vs H2 => sp (.ref a :: vs) H2 Q E)
    (hst : starEach (e :: es) (cxS P w K mg base N qual sc f cda cc A outer s0 H0 E).env = (false, eval e (cxS P w K mg base N qual sc f cda cc A outer s0 H0 E).env) :: starEach es (cxS P w K mg base N qual sc f cda cc A outer s0 H0 E).env := by rfl)
    (hpl : (backTo p3 (starEach es (cxS P w K mg base N qual sc f cda cc A outer s0 H0 E).env)).any (·.1) = false := by rfl)
    (hev : eval (.Call (.Attribute (.Call (.Name "super" p0) [] [] p1) m p2) (e :: es) [] p3) (cxS P w K mg base N qual sc f cda cc A outer s0 H0 E).env = (do
      let ov ← attributeBase (.Call (.Name "super" p0) [] [] p1) m (cxS P w K mg base N qual sc f cda cc A outer s0 H0 E).env (eval (.Call (.Name "super" p0) [] [] p1) (cxS P w K mg base N qual sc f cda cc A outer s0 H0 E).env)
      standAt p2.atName
      let (fv, first) ← holding [ov] (getMethod ov m pl)
      callWith p3 fv first (backTo p3 (starEach (e :: es) (cxS P w K mg base N qual sc f cda cc A outer s0 H0 E).env)) []) := by rfl) :
    PySem.wpAt (model P w) (cxS P w K mg base N qual sc f cda cc A outer s0 H0 E).A (.func body (cxS P w K mg base N qual sc f cda cc A outer s0 H0 E).env)
      (eval (.Call (.Attribute (.Call (.Name "super" p0) [] [] p1) m p2) (e :: es) [] p3) (cxS P w K mg base N qual sc f cda cc A outer s0 H0 E).env) (EP (cxS P w K mg base N qual sc f cda cc A outer s0 H0 E) pins σ Q) (cxS P w K mg base N qual sc f cda cc A outer s0 H0 E).xe s := by
  refine sup_get S SF hpar hN hself hm hev I hσ ha U fun q2 s2 bn J => ClX.callwith_cm J bn U.fi (thn (hA.run p3 _ s2 σ H1 _ J q) fun us s3 z3 => ?_) hst hpl
  obtain ⟨vs, H2, J3, rv, q2'⟩ := z3
  have r1 : Vals (V.ref a :: vs) (Value.ref a :: us) := .cons rfl rv
  have bt := bind_pos (dvs := []) (vs := V.ref a :: vs) G hb .nil J3.kIn r1 (by rw [List.append_nil]; exact q2')
  refine ⟨⟨ClX.pin_at J3, J3.kIn⟩, ?_⟩
  refine thn (Q := EP _ ((q2, PySem.W.methodObj (.ref g) (.ref a)) :: pins) σ Q) (wpAny_call (PySem.W.method_call (ClX.pin_at J3) (codeAny_mono (G.go _ (ksEnv qual sc s0.heap.objs.size f (.ref cda) cc :: outer) s3 H2 ⟨.ref a :: us, []⟩ _ _ Q E rm gd J3.env0 bt (by rw [List.append_nil]; exact r1) q2') fun out s4 z4 => ?_))) fun _ _ y => ClX.unpinE y
  match out, z4 with
  | .error er, z4 => exact pass_S _ σ H2 s3 er s4 J3 z4
  | .ok (.ret v), z4 => exact J3.after z4
end
end
end KG

set_option Elab.async false
set_option linter.all false
set_option maxRecDepth 100000
set_option maxHeartbeats 1000000
/-! KD: methods and properties of an object whose class is known by its place in a list of classes. -/
namespace KG
open PySem PySem.Spec PySem.Calls PyProof.Rows L2
/-- each class of the list has a method m, promised sp -/
def DMeth (P : Program) (w : World) (K : PySem.W.Frag) (mg : Str → Option Value) (base : Heap) (CX : CXT) (k : Nat) (CL : List Addr) (m : Str) (ps : List Str) (sp : Nat → Sp) : Prop :=
  ∀ n C, CL[n]? = some C → ∃ f fd, Cls K C ∧ Meth K C m f ∧ Binds K fd ps [] ∧ Gd P w K mg base CX k f fd ps (sp n)
def DProp (P : Program) (w : World) (K : PySem.W.Frag) (mg : Str → Option Value) (base : Heap) (k : Nat) (CL : List Addr) (m : Str) (sp : Nat → Sp) : Prop :=
  ∀ n C, CL[n]? = some C → ∃ p g fd, Cls K C ∧ PropOf K C m p g ∧ Binds K fd ["self"] [] ∧ Gd P w K mg base CX0 k g fd ["self"] (sp n)
/-- the same with one argument by keyword -/
def DMethK (P : Program) (w : World) (K : PySem.W.Frag) (mg : Str → Option Value) (base : Heap) (CX : CXT) (k : Nat) (CL : List Addr) (m x : Str) (sp : Nat → Sp) : Prop :=
  ∀ n C, CL[n]? = some C → ∃ f fd, Cls K C ∧ Meth K C m f ∧ KBn K fd ["self", x] 1 [x] (fun us ws => us ++ ws) (fun us ws => us ++ ws) ∧ Gd P w K mg base CX k f fd ["self", x] (sp n)
def tDyn (CL : List Addr) (m : Str) (sp : Nat → Sp) (E : XK) (ta : TE) (tk : TA) : TE := fun σ H Q => ta σ H fun x H1 => ∃ a n C dx fs, x = .ref a ∧ CL[n]? = some C ∧ H1 a = some (.ins C dx fs) ∧ fs.lookup m = none ∧ tk σ H1 fun vs H2 => sp n (.ref a :: vs) H2 Q E
def tDynP (CL : List Addr) (sp : Nat → Sp) (E : XK) (ta : TE) : TE := fun σ H Q => ta σ H fun x H1 => ∃ a n C dx fs, x = .ref a ∧ CL[n]? = some C ∧ H1 a = some (.ins C dx fs) ∧ sp n [.ref a] H1 Q E
section
variable {X : Cx} {CX : CXT} {k j : Nat} {CL : List Addr} {ps : List Str} {sp : Nat → Sp} {E : XK} {m x : Str} {p pos apos : Pos} {e o : Expr} {es : List Expr} {kws : List Keyword} {ta : TE} {t tk : TA}
theorem pe_dmeth0 {pl : Sem Bool} (he : PE X o ta) (D : DMeth X.prog X.w X.K X.mg X.base CX j CL m ps sp) (rm : Room k X.A) (hk : j ≤ k) (gd : X.A.guards = some []) (hx : Passes CX X E)
    (ht : eval (.Call (.Attribute o m apos) [] [] pos) X.env = (do
      let w ← eval o X.env
      standAt apos.atName
      let (g, a) ← holding [w] (getMethod w m pl)
      callWith pos g a (backTo pos (starEach [] X.env)) (backToKw pos (keywordEach [] X.env))) := by rfl) :
    PE X (.Call (.Attribute o m apos) [] [] pos) (tDyn CL m sp E ta tNil) := by
  refine ⟨fun pins s σ H Q I h => PySem.W.methodCall_KW (pl := pl) (thn (he.run pins s σ H _ I h) fun u s1 ⟨y, H1, J, ry, a, n, C, dx, fs, ey, hC, ea, l, q⟩ => ?_) ht⟩
  subst ey
  obtain rfl : u = Value.ref a := ry
  obtain ⟨f, fd, c, hm, hb, F⟩ := D n C hC
  have r1 : Vals [V.ref a] [Value.ref a] := .cons rfl .nil
  exact getmeth_ok J ea c hm l (PySem.W.callWith_K0 (first := [.ref a]) J.kIn hm.kp (run_g (us := [.ref a]) F (rm.mono hk) gd hx J (bind_pos (dvs := []) (vs := [.ref a]) F hb .nil J.kIn r1 q) (r1.append .nil) q))
theorem pe_dmeth {pl : Sem Bool} (he : PE X o ta) (D : DMeth X.prog X.w X.K X.mg X.base CX j CL m ps sp) (rm : Room k X.A) (hk : j ≤ k) (gd : X.A.guards = some []) (hx : Passes CX X E) (ha : PA X (e :: es) t)
    (hst : starEach (e :: es) X.env = (false, eval e X.env) :: starEach es X.env := by rfl) (hpl : (backTo pos (starEach es X.env)).any (·.1) = false := by rfl)
    (ht : eval (.Call (.Attribute o m apos) (e :: es) [] pos) X.env = (do
      let w ← eval o X.env
      standAt apos.atName
      let (g, a) ← holding [w] (getMethod w m pl)
      callWith pos g a (backTo pos (starEach (e :: es) X.env)) (backToKw pos (keywordEach [] X.env))) := by rfl) :
    PE X (.Call (.Attribute o m apos) (e :: es) [] pos) (tDyn CL m sp E ta t) := by
  refine ⟨fun pins s σ H Q I h => PySem.W.methodCall_KW (pl := pl) (thn (he.run pins s σ H _ I h) fun u s1 ⟨y, H1, I1, ry, a, n, C, dx, fs, ey, hC, ea, l, q⟩ => ?_) ht⟩
  subst ey
  obtain rfl : u = Value.ref a := ry
  obtain ⟨f, fd, c, hm, hb, F⟩ := D n C hC
  refine getmeth_ok I1 ea c hm l (PySem.W.callWith_K (first := [.ref a]) (h₀ := X.base) I1.ok.mod.kin hm.kp (thn (ha.run pos pins s1 σ H1 _ I1 q) fun us s2 ⟨vs, H2, J, r, q2⟩ => ⟨J.kIn, ?_⟩) hst hpl)
  have r1 : Vals (V.ref a :: vs) (Value.ref a :: us) := .cons rfl r
  have q3 : sp n (V.ref a :: vs ++ []) H2 Q E := by rw [List.append_nil]; exact q2
  exact run_g F (rm.mono hk) gd hx J (bind_pos (dvs := []) F hb .nil J.kIn r1 q3) (r1.append .nil) q3
theorem pe_dprop (he : PE X o ta) (D : DProp X.prog X.w X.K X.mg X.base j CL m sp) (rm : Room (k + 1) X.A) (hk : j ≤ k) (gd : X.A.guards = some [])
    (ab : attributeBase o m X.env (eval o X.env) = eval o X.env := by rfl) : PE X (.Attribute o m pos) (tDynP CL sp E ta) := by
  refine ⟨fun pins s σ H Q I z => ?_⟩
  refine attr_of ab (thn (he.run pins s σ H _ I z) fun u s1 z1 => ?_)
  obtain ⟨v0, H1, J, ru, a, n, C, dx, fs, rfl, hC, ea, q⟩ := z1
  obtain ⟨p, g, fd, c, P, hb, F⟩ := D n C hC
  obtain rfl : u = Value.ref a := ru
  obtain ⟨mA, O, _⟩ := ins_get J.hok ea
  obtain ⟨od, O, _⟩ := O.look
  obtain ⟨tail, isP⟩ := P.rec_
  have isC : (PySem.W.clsIn X.K C).isSome = true := let ⟨_, w, _⟩ := PySem.W.any_some c.hd; w ▸ rfl
  have J1 := J.tok (s1.toks + 1)
  have pg := PySem.W.plainGet_of (c.get m)
  refine PySem.W.get_bind J.kIn O pg.1 (PySem.W.findObj_data isC P.at_ P.get P.tak) pg.2 (wpAny_call (PySem.W.prop_get (s := { s1 with toks := s1.toks + 1 }) J.kIn isP ?_))
  have r1 : Vals [V.ref a] [Value.ref a] := .cons rfl .nil
  have bt := bind_pos (dvs := []) (vs := [V.ref a]) F hb .nil J1.kIn r1 q
  refine codeAny_mono (F.go X.A.in1 X.stack { s1 with toks := s1.toks + 1 } H1 ⟨[.ref a], []⟩ _ _ Q E (rm.mono (Nat.succ_le_succ hk)).in1 gd J1.env0.in1 bt r1 q) fun out s2 z2 => ?_
  match out, z2 with
  | .error er, z2 => exact False.elim z2
  | .ok (.ret u), z2 =>
    obtain ⟨v, H2, J2, rv, q2⟩ := J1.after z2
    show wpAny _ _ (handedOut u) _ _ _
    rw [PySem.W.handedOut_of (handed_of rv)]
    exact wpAny_pure ⟨v, H2, J2, rv, q2⟩
def tDynK (CL : List Addr) (m : Str) (sp : Nat → Sp) (E : XK) (ta : TE) (tk : TA) : TE := fun σ H Q => ta σ H fun x H1 => ∃ a n C dx fs, x = .ref a ∧ CL[n]? = some C ∧ H1 a = some (.ins C dx fs) ∧ fs.lookup m = none ∧ tk σ H1 fun zs H2 => ∃ z, zs = [z] ∧ sp n [.ref a, z] H2 Q E
/-- o.m(x=e) -/
theorem pe_dmethK {pl : Sem Bool} (he : PE X o ta) (D : DMethK X.prog X.w X.K X.mg X.base CX j CL m x sp) (rm : Room k X.A) (hk : j ≤ k) (gd : X.A.guards = some []) (hx : Passes CX X E) (hkw : PK X kws tk)
    (hall : (backToKw pos (keywordEach kws X.env)).all (·.1.isSome) = true := by rfl) (hks : (backToKw pos (keywordEach kws X.env)).filterMap (·.1) = [x] := by rfl)
    (hpl : ((backTo pos (starEach [] X.env)).any (·.1) || (backToKw pos (keywordEach kws X.env)).any (·.1.isNone)) = false := by rfl)
    (ht : eval (.Call (.Attribute o m apos) [] kws pos) X.env = (do
      let w ← eval o X.env
      standAt apos.atName
      let (g, a) ← holding [w] (getMethod w m pl)
      callWith pos g a (backTo pos (starEach [] X.env)) (backToKw pos (keywordEach kws X.env))) := by rfl) :
    PE X (.Call (.Attribute o m apos) [] kws pos) (tDynK CL m sp E ta tk) := by
  refine ⟨fun pins s σ H Q I h => PySem.W.methodCall_KW (pl := pl) (thn (he.run pins s σ H _ I h) fun u s1 ⟨y, H1, I1, ry, a, n, C, dx, fs, ey, hC, ea, l, q⟩ => ?_) ht⟩
  subst ey
  obtain rfl : u = Value.ref a := ry
  obtain ⟨f, fd, c, hm, hb, F⟩ := D n C hC
  refine getmeth_ok I1 ea c hm l (PySem.W.callWith_KW0 (first := [.ref a]) (h₀ := X.base) I1.ok.mod.kin hm.kp hall (thn (hkw.run pos pins s1 σ H1 _ I1 q) fun ws s2 ⟨zs, H2, J, rz, z, ez, q2⟩ => ⟨J.kIn, ?_⟩) hpl)
  subst ez
  obtain ⟨u, eu, ru⟩ := vals1 rz
  subst eu
  rw [hks]
  have r1 : Vals [V.ref a] [Value.ref a] := .cons rfl .nil
  exact run_g (us := [.ref a]) F (rm.mono hk) gd hx J (hb.to s2 [.ref a] [u] J.kIn rfl rfl) (hb.rel r1 (.cons ru .nil)) q2
theorem w_dynP {σ : L2.St} {H : Hp} {Q : VK} (q : ta σ H fun x H1 => ∃ a n C dx fs, x = .ref a ∧ CL[n]? = some C ∧ H1 a = some (.ins C dx fs) ∧ sp n [.ref a] H1 Q E) : tDynP CL sp E ta σ H Q := q
theorem w_dyn {σ : L2.St} {H : Hp} {Q : VK} (q : ta σ H fun x H1 => ∃ a n C dx fs, x = .ref a ∧ CL[n]? = some C ∧ H1 a = some (.ins C dx fs) ∧ fs.lookup m = none ∧ tk σ H1 fun vs H2 => sp n (.ref a :: vs) H2 Q E) : tDyn CL m sp E ta tk σ H Q := q
theorem w_dynK {σ : L2.St} {H : Hp} {Q : VK} (q : ta σ H fun x H1 => ∃ a n C dx fs, x = .ref a ∧ CL[n]? = some C ∧ H1 a = some (.ins C dx fs) ∧ fs.lookup m = none ∧ tk σ H1 fun zs H2 => ∃ z, zs = [z] ∧ sp n [.ref a, z] H2 Q E) : tDynK CL m sp E ta tk σ H Q := q
end
end KG

set_option Elab.async false
set_option linter.all false
set_option maxRecDepth 100000
set_option maxHeartbeats 3200000
/-! KC: set(xs) of a list of whole numbers, as a value; sorted of it is the layer's own. -/
namespace KG
open PySem PySem.Spec PySem.Calls PyProof.Rows L2
section
variable {P : Program} {w : World} {A : Around} {E : Value → Shared → Prop} {s : Shared}
/-- a set as set.__new__ lays it -/
abbrev set0 (w : World) : Obj := { cls := .type "set", dict := none, data := .set #[] 0 (.fresh 0 0 (!w.params.followText "set-order")) }
/-- the state with such a set laid -/
abbrev laid0 (w : World) (s : Shared) : Shared := { s with heap := s.heap.push (set0 w) }
/-- what stands behind: all that was, and the set of the numbers at d -/
def Filled (w : World) (s : Shared) (d : Addr) (ns : List Int) (s' : Shared) : Prop :=
  ∃ (h' : Heap) (tk c : Nat), s' = { s with heap := h', toks := tk } ∧ SetR w h' d (fun j => decide (j ∈ ns)) c ∧ c ≤ ns.length ∧ ∀ b o, b ≠ d → s.heap.get? b = some o → h'.get? b = some o
/-- the filling, from the list's iterator -/
theorem fill_from {B : Around} {l d : Addr} {items : Array Value} {ns : List Int} {R : Result → Shared → Prop} (hB : B.handled = none) (hit : IntsAre items.toList ns) (hb : ns.length + 1 < scanBound) (hl : s.heap.IsList l items)
    (hd : s.heap.get? d = some (set0 w)) (hne : d ≠ l) (h : ∀ s', Filled w s d ns s' → R (.ok (.ret .none)) s') :
    codeAny (model P w) B (.builtin "set.update.loop" ⟨[.ref d, .ref s.heap.objs.size], []⟩) R { s with heap := s.heap.push { cls := .type "list_iterator", data := .fields #[.ref l, .int 0 0] } } := by
  have en : items.size = ns.length := by
    have q := IntsAre.length hit
    rwa [Array.length_toList] at q
  obtain ⟨ol, hol, hol2⟩ := id hl
  have lt1 : l < s.heap.objs.size := Heap.lt_size hol
  have lt2 : d < s.heap.objs.size := Heap.lt_size hd
  have at_i : ∀ (i : Nat) (v : Value), items[i]? = some v → ∃ k t, ns[i]? = some k ∧ v = .int k t := fun i v hv => by
    have hi : i < ns.length := by rw [← en]; exact (Array.getElem?_eq_some_iff.mp hv).1
    obtain ⟨t, e⟩ := PyProof.Rows.IntsAre.int_at hit i v (by rw [Array.getElem?_toList]; exact hv)
    refine ⟨ns[i], t, List.getElem?_eq_getElem hi, ?_⟩
    rw [e, List.getD_eq_getElem?_getD, List.getElem?_eq_getElem hi] <;> rfl
  refine set_update_ints ((Walks.list (by simp [hB]) s.heap.objs.size l (Nat.ne_of_lt lt1) items).toS) d (by simp; exact ⟨Nat.ne_of_lt lt2, hne⟩) ns en hb at_i items.size 0 _ (by omega) (Nat.zero_le _)
    ⟨⟨_, Heap.get?_push_size _ rfl, rfl, rfl⟩, hl.push _⟩ ⟨0, Nat.le_refl 0, setR_new_at (Heap.get?_push_of_some _ hd)⟩ fun s' c m hc R1 => h s' ?_
  obtain ⟨h', g', d', tk, os'⟩ := s'
  obtain rfl : g' = s.gens := m.gens
  obtain rfl : d' = s.drawn := m.drawn
  obtain rfl : os' = s.os := m.os
  refine ⟨h', tk, c, rfl, R1, en ▸ hc, fun b o nb e => m.heap b o ?_ (Heap.get?_push_of_some _ e)⟩
  have := Heap.lt_size e
  simp only [List.mem_cons, List.not_mem_nil, or_false, not_or]
  exact ⟨nb, Nat.ne_of_lt this⟩
/-- set.__init__ on the fresh set -/
theorem init_list {l : Addr} {items : Array Value} {ns : List Int} (hh : A.handled = none) (hit : IntsAre items.toList ns) (hb : ns.length + 1 < scanBound) (hl : s.heap.IsList l items) :
    codeAny (model P w) A (.call (.builtin "set.__init__") ⟨[.ref s.heap.objs.size, .ref l], []⟩) (wants (fun r s' => r = .none ∧ Filled w (laid0 w s) s.heap.objs.size ns s') E) (laid0 w s) := by
  have hS : (laid0 w s).heap.get? s.heap.objs.size = some (set0 w) := Heap.get?_push_size _ rfl
  have hT : (laid0 w s).TypeIs (.ref s.heap.objs.size) "set" := ⟨_, hS, rfl⟩
  refine codeAny_call_builtin F.called_set.init.plain F.entry_set_init (check_set_init_1 hT ?_)
  have hl1 : (laid0 w s).heap.IsList l items := hl.push _
  obtain ⟨⟨ocls, odict, odata, osl⟩, hol, hcl, nl, hdl⟩ := id hl
  simp only at hcl hdl
  subst hcl hdl
  have hol' := Heap.get?_push_of_some (set0 w) hol
  have e1 := F.sub_list_set
  have e2 := F.sub_list_frozenset
  have e3 : (Value.type "list" == Value.type "dict") = false := by decide
  have lt1 : l < s.heap.objs.size := Heap.lt_size hol
  unfold Builtin.«set.__init__» noKeywords Builtin.Frozenset.updateFrom
  generalize hPI : pyIter = PI
  wp_walk
  subst hPI
  refine wpAny_pyIter_list hl1 ?_
  refine wpAny_bind (wpAny_runValue (fill_from (s := laid0 w s) (by simp [hh]) hit hb hl1 hS (Nat.ne_of_gt lt1) fun s' f => ?_))
  show wpAny _ _ _ _ _ _
  refine wpAny_pure ?_
  show wpAny _ _ (ret Value.none) _ _ _
  exact wpAny_pure ⟨rfl, f⟩
/-- set(xs) -/
theorem set_list {l : Addr} {items : Array Value} {ns : List Int} {Q : Value → Shared → Prop} (hh : A.handled = none) (hit : IntsAre items.toList ns) (hb : ns.length + 1 < scanBound) (hl : s.heap.IsList l items)
    (h : ∀ s', Filled w (laid0 w s) s.heap.objs.size ns s' → Q (.ref s.heap.objs.size) s') : wpAny (model P w) A (call (.type "set") [.ref l]) Q E s := by
  obtain ⟨c, tl, hmro⟩ := F.called_set.mro
  have k1 := F.called_set.made
  have k2 := F.called_set.sub
  have k3 := F.called_set.notType
  have k4 := F.called_set.canCreate
  have k5 := F.typeCall_set_1 (.ref l)
  refine wpAny_call (codeAny_of_tree ?_)
  show wpAny _ _ (callAny (.type "set") _) _ _ _
  refine wpAny_pure ⟨Code.quiet_builtin _ (by decide +kernel), codeAny_builtin F.entry_type_call ?_⟩
  rw [Around.under_plain (weight_type_call_type "set" [.ref l] []) rfl]
  repeat (any_goals (first | assumption | wp_step))
  refine codeAny_mono (code_set_led1 (.ref l) (E := E) (Q₁ := fun obj s₁ => obj = .ref s.heap.objs.size ∧ s₁ = laid0 w s) ⟨rfl, rfl⟩) fun r s₁ hr => ?_
  rcases r with e | (_ | _ | _ | obj)
  · exact hr
  iterate 3 exact hr.elim
  · obtain ⟨rfl, rfl⟩ := hr
    have hS : (laid0 w s).heap.get? s.heap.objs.size = some (set0 w) := Heap.get?_push_size _ rfl
    have hT : (laid0 w s).TypeIs (.ref s.heap.objs.size) "set" := ⟨_, hS, rfl⟩
    have k6 := F.called_set.init.lookup
    have k7 := F.called_set.init.bind (.ref s.heap.objs.size)
    repeat (any_goals (first | assumption | wp_step))
    refine codeAny_mono (init_list (E := E) (by simp [hh]) hit hb hl) fun r₂ s₂ hr₂ => ?_
    rcases r₂ with e | (_ | _ | _ | r)
    · exact hr₂
    iterate 3 exact hr₂.elim
    · obtain ⟨rfl, f⟩ := hr₂
      repeat (any_goals (first | assumption | wp_step))
      exact h _ f
end
/-- set(xs), xs a list of whole numbers -/
def rSetI (K : PySem.W.Frag) (w : World) : List V → Hp → VK → Prop := fun xs H Q => ∃ (l : Addr) (ns : List Int), xs = [.ref l] ∧ SqL K H l (ns.map V.int) ∧ ns.length ≤ 1000 ∧ ∀ (a : Addr) (c : Nat), H a = none → c ≤ ns.length → Q (.ref a) (upd H a (SetO w a (fun j => decide (j ∈ ns)) c))
theorem cr_setI {X : Cx} (hc : X.calm = true) : CallR X (.type "set") (rSetI X.K X.w) := by
  intro pins s σ H xs us Q I r h
  obtain ⟨l, ns, rfl, hl, hb, q⟩ := h
  rw [Vals.ref1 r]
  obtain ⟨its, rv, p, hz⟩ := I.list hl
  have fr : H s.heap.objs.size = none := I.hok.fresh (Nat.le_refl _)
  refine set_list (I.ok.hd hc) (ns := ns) (items := its.toArray) (by simpa using RZ.intsAre_vals rv) (by unfold scanBound; omega) p.isList fun s' ⟨h', tk, c, e, R, hcl, k⟩ => ?_
  subst e
  have kp : ∀ b o, s.heap.get? b = some o → h'.get? b = some o := fun b o e => k b o (Nat.ne_of_lt (Heap.lt_size e)) (Heap.get?_push_of_some _ e)
  exact ⟨.ref s.heap.objs.size, upd H s.heap.objs.size (SetO X.w s.heap.objs.size (fun j => decide (j ∈ ns)) c), I.laid (t' := tk) kp (Nat.le_refl _) (setO_new R), rfl, q _ c fr hcl⟩
end KG

set_option Elab.async false
set_option linter.all false
set_option maxRecDepth 100000
set_option maxHeartbeats 3200000
/-! KB: {e for x in a for y in b}, e a whole number: one rule for a clause's loop, whatever a turn of it does; the comprehension by two of them. -/
namespace KG
open PySem PySem.Spec PySem.Calls PyProof.Rows L2

/-- a clause's turn, the rest of it told by `rest` -/
def clTurn (tg iter : Expr) (ifs : List Expr) (env : Env) (it : Value) (rest : Sem Unit) (c : Code) : Sem Fin := do
  standAt iter.pos
  match ← pyNext it with
  | none => pure (.done .next)
  | some v =>
    letOwnedTupleGo tg it v
    assign tg env v
    let mut ok := true
    for c in ifs do
      if ok then ok ← isTrue c env (eval c env)
    if ok then rest
    again c
/-- what a clause asks: `tb` what its rest asks, to reach what stands behind -/
def ClQ (J : It) (g : TG) (tt : TT) (tb : L2.St → Hp → (Hp → Prop) → Prop) (vs : List Nat) (σ : L2.St) (H : Hp) (Z : Hp → Prop) : Prop :=
  ∃ W : Nat → Nat → Hp → Prop, (∃ m, W 0 m H) ∧ ∀ i m H, W i m H → (J.stop i H ∧ Z H) ∨ (J.go i H ∧ ∃ Nx : Hp → Prop, (∀ H', Nx H' → ∃ m', m' < m ∧ W (i + 1) m' H') ∧
    ∀ x H', J.yld i H x H' → g x (wipe σ vs) H' fun σ2 H2 => wipe σ2 vs = wipe σ vs ∧ tt σ2 H2 fun b H3 => if b = true then tb σ2 H3 Nx else Nx H3)
/-- the rest of a turn: what it leaves knows all slots but those of the clause's own names -/
def Rest (X : Cx) (rest : Sem Unit) (tb : L2.St → Hp → (Hp → Prop) → Prop) (vs : List Nat) : Prop :=
  ∀ (pins : List (Addr × Obj)) (s : Shared) (σ : L2.St) (H : Hp) (Z : Hp → Prop), Inv X pins σ H s → tb σ H Z →
    wpAny (model X.prog X.w) X.A rest (fun _ s' => ∃ σ' H', Inv X pins σ' H' s' ∧ σ'.length = σ.length ∧ (∀ (j : Nat) v, (wipe σ vs)[j]? = some (some v) → σ'[j]? = some (some v)) ∧ Z H') (fun _ _ => False) s
section
variable {X : Cx} {elt tg iter : Expr} {gens : List Comprehension} {ifs : List Expr} {scope : Scope} {pos : Pos} {d : Nat} {acc : Value} {R : Result → Shared → Prop} {pins : List (Addr × Obj)} {J : It} {g : TG} {tt : TT} {tb : L2.St → Hp → (Hp → Prop) → Prop} {vs : List Nat}
  {σ : L2.St} {H : Hp} {Z : Hp → Prop} {s : Shared} {rest : Sem Unit} {it : Addr} {fp : List Addr} {tn : Nat → Heap → Prop}
theorem clause_run (hx : X.xe = fun _ _ => False) (hc : X.calm = true) (ht : compTurn (.SetComp elt gens scope pos) d (.ref it) acc X.env = clTurn tg iter ifs X.env (.ref it) rest (.compLoop (.SetComp elt gens scope pos) d (.ref it) acc X.env))
    (pg : PG X tg g) (pt : PTs X ifs tt) (pr : Rest X rest tb vs) (T : Turn X.prog X.w X.K tg J fp it tn) (I : Inv X pins (wipe σ vs) H s) (st : tn 0 s.heap) (fo : ∀ b ∈ fp, FpOk X pins H b) (q : ClQ J g tt tb vs σ H Z)
    (hR : ∀ s' H', Inv X pins (wipe σ vs) H' s' → Z H' → R (.ok .next) s') : codeAny (model X.prog X.w) X.A (.compLoop (.SetComp elt gens scope pos) d (.ref it) acc X.env) R s := by
  obtain ⟨W, ⟨m0, w0⟩, turn⟩ := q
  refine codeAny_loop rfl (fun n t => ∃ i G, Inv X pins (wipe σ vs) G t ∧ tn i t.heap ∧ (∀ b ∈ fp, FpOk X pins G b) ∧ W i n G) (fun n t ht1 => ?_) m0 ⟨0, H, I, st, fo, w0⟩
  obtain ⟨i, G, I1, st1, fo1, w1⟩ := ht1
  show wpAny _ X.A ((compTurn (.SetComp elt gens scope pos) d (.ref it) acc X.env).onRaise fun x => do noteFrame x X.env; theTreesLotGoes x) _ _ t
  refine wpAny_noted ?_
  rw [ht]
  unfold clTurn
  refine wpAny_bind (wpAny_standAt (wpAny_bind ?_))
  rcases turn i n G w1 with ⟨stop, z⟩ | ⟨go, Nx, less, step⟩
  · exact thnF (T.done X rfl rfl rfl hc i pins t (wipe σ vs) G (fun _ _ => False) I1 fo1 st1 stop) fun r t2 ⟨er, I2⟩ => by
      subst er
      exact wpAny_pure (hR t2 G I2 z)
  refine thnF (T.item X rfl rfl rfl hc i pins t (wipe σ vs) G (fun _ _ => False) I1 fo1 st1 go) fun r t2 ⟨u, er, next⟩ => ?_
  subst er
  refine wpAny_bind (thnF next fun _ t3 ⟨x, G3, I3, rx, y3, st3, none3⟩ => ?_)
  have fo3 : ∀ b ∈ fp, FpOk X pins G3 b := fun b hb => ⟨none3 b hb, (fo1 b hb).2⟩
  have P3 := I3.pinned fo3 (T.obj _ _ st3)
  -- the turn is over
  have over : ∀ {τ : L2.St} {t' : Shared} {G' : Hp}, Inv X (pins ++ pinsAt fp t3.heap) τ G' t' → τ.length = (wipe σ vs).length → (∀ (j : Nat) v, (wipe σ vs)[j]? = some (some v) → τ[j]? = some (some v)) → Nx G' →
      ∃ m, m < n ∧ ∃ i G, Inv X pins (wipe σ vs) G t' ∧ tn i t'.heap ∧ (∀ b ∈ fp, FpOk X pins G b) ∧ W i m G := fun {τ t' G'} I' l k nx => by
    obtain ⟨m, lt, w'⟩ := less G' nx
    have held : ∀ b ∈ fp, ∀ o, t3.heap.get? b = some o → t'.heap.get? b = some o ∧ G' b = none := fun b hb o e => by
      have z := I'.pin (b, o) (List.mem_append_right _ (List.mem_append_right _ (mem_pinsAt hb e)))
      exact ⟨z.1, z.2.1⟩
    refine ⟨m, lt, i + 1, G', I'.unpinned.weak l.symm k, T.keep _ _ _ st3 fun b hb o e => (held b hb o e).1, fun b hb => ⟨?_, (fo1 b hb).2⟩, w'⟩
    obtain ⟨o, e, _⟩ := T.obj _ _ st3 b hb
    exact (held b hb o e).2
  have pg' := pg.run _ t3 (wipe σ vs) G3 x u _ P3 rx (step x G3 y3)
  rw [hx] at pg'
  refine wpAny_bind (thnF pg' fun _ t4 ⟨σ4, G4, I4, e4, q4⟩ => ?_)
  have pt' := pt.run _ t4 σ4 G4 _ I4 q4
  rw [hx] at pt'
  have l4 : σ4.length = (wipe σ vs).length := by rw [← e4, wipe_length]
  refine wpAny_bind (thnF pt' fun b t5 ⟨G5, I5, q5⟩ => ?_)
  cases b with
  | false => exact wpAny_pure ⟨rfl, over I5 l4 (fun j v e => by rw [← e4] at e; exact (wipe_some e).1) q5⟩
  | true =>
    refine wpAny_bind (thnF (pr _ t5 σ4 G5 Nx I5 q5) fun _ t6 ⟨σ6, G6, I6, l6, k6, q6⟩ => ?_)
    exact wpAny_pure ⟨rfl, over I6 (l6.trans l4) (fun j v e => k6 j v (by rw [e4]; exact e)) q6⟩
/-- a clause's start -/
theorem clause_start {ce : Env} {c : Comprehension} (hg : gens[d]? = some c) (ha : c.is_async = 0) (h : codeAny (model X.prog X.w) X.A (.compLoop (.SetComp elt gens scope pos) d (.ref it) acc ce) R s) (T : Turn X.prog X.w X.K tg J fp it tn) (st : tn 0 s.heap) :
    codeAny (model X.prog X.w) X.A (.compStart (.SetComp elt gens scope pos) d (.ref it) acc ce) R s := by
  refine codeAny_of_tree ?_
  show wpAny _ _ ((compStart (.SetComp elt gens scope pos) d (.ref it) acc ce).onRaise fun x => do noteFrame x ce; standAt theWindowsPlace) _ _ s
  refine wpAny_notedAt ?_
  have hcl : (clausesOf (.SetComp elt gens scope pos))[d]? = some c := hg
  unfold compStart
  rw [hcl]
  have hn : ((some c : Option Comprehension).elim false fun x => x.is_async != 0) = false := by
    show (c.is_async != 0) = false
    rw [ha]
    rfl
  rw [hn]
  simp only [Bool.false_eq_true, if_false]
  show wpAny _ _ (ask >>= _) _ _ s
  refine wpAny_bind (wpAny_askSetting (wpAny_ite ?_))
  have last : ∀ (s' : Shared) (E' : Value → Shared → Prop), s' = s → wpAny (model X.prog X.w) X.A (again (.compLoop (.SetComp elt gens scope pos) d (.ref it) acc ce)) (fun fin s' => match fin with | .done f => R (.ok f) s' | .again c' => c'.quiet = true ∧ codeAny (model X.prog X.w) X.A c' R s') E' s' := fun s' E' e => by
    subst e
    exact wpAny_pure ⟨rfl, h⟩
  split
  · first
      | exact last _ _ rfl
      | exact wpAny_bind (last _ _ rfl)
      | exact wpAny_bind (wpAny_pure (last _ _ rfl))
  · refine wpAny_bind (wpAny_rule ?_)
    first
      | exact wpAny_bind (wpAny_standAt (wpAny_bind (T.self X.A 0 s _ _ st (last _ _ rfl))))
      | exact wpAny_bind (wpAny_bind (wpAny_standAt (wpAny_bind (T.self X.A 0 s _ _ st (last _ _ rfl)))))
/-- the last clause's rest: the item goes into the set -/
def tAdd (w : World) (D : Addr) (te : TE) : L2.St → Hp → (Hp → Prop) → Prop := fun σ H Z => te σ H fun y H1 => ∃ (k : Int) (S : Int → Bool) (n : Nat), y = .int k ∧ H1 D = some (SetO w D S n) ∧ n + 1 < scanBound ∧ Z (upd H1 D (SetO w D (fun j => S j || decide (j = k)) (if S k = true then n else n + 1)))
theorem rest_add {D : Addr} {te : TE} (hx : X.xe = fun _ _ => False) (pe : PE X elt te) : Rest X (do let v ← eval elt X.env; standAt elt.pos; let _ ← call (.builtin "set.add") [.ref D, v]) (tAdd X.w D te) vs := by
  intro ps t τ G Y I q
  have h := pe.run ps t τ G _ I q
  rw [hx] at h
  refine wpAny_bind (thnF h fun u t1 ⟨y, G1, I1, r1, k, S, n, ey, hD, room, z⟩ => ?_)
  subst ey
  refine wpAny_bind (wpAny_standAt (wpAny_bind ?_))
  refine wpAny_mono (mt_sadd ps t1 τ G1 (.ref D) [.int k] (.ref D) [u] (fun _ G2 => Y G2) I1 rfl (.cons r1 .nil) ⟨D, k, S, n, rfl, rfl, hD, room, z⟩) (fun v t2 ⟨y2, G2, I2, _, z2⟩ => ?_) fun _ _ e => ?_
  · exact wpAny_pure ⟨τ, G2, I2, rfl, fun j v e => (wipe_some e).1, z2⟩
  · rw [hx] at e
    exact e
/-- a clause's rest that is the next clause -/
def tNext1 (wi : TI) (g : TG) (tt : TT) (tb : L2.St → Hp → (Hp → Prop) → Prop) (vs : List Nat) : L2.St → Hp → (Hp → Prop) → Prop := fun σ H Z => wi σ H fun J H1 => ClQ J g tt tb vs σ H1 Z
theorem rest_next {tg1 iter1 : Expr} {ifs1 : List Expr} {wi1 : TI} {g1 : TG} {tt1 : TT} {vs1 : List Nat} {rest1 : Sem Unit} {c : Comprehension} (hx : X.xe = fun _ _ => False) (hc : X.calm = true) (hs : ∀ x, foldedSetIterable iter1 X.env x = pure x) (hg : gens[d]? = some c) (ha : c.is_async = 0)
    (ht : ∀ it, compTurn (.SetComp elt gens scope pos) d it acc X.env = clTurn tg1 iter1 ifs1 X.env it rest1 (.compLoop (.SetComp elt gens scope pos) d it acc X.env))
    (pi1 : PI X tg1 iter1 wi1) (pg : PG X tg1 g1) (pt : PTs X ifs1 tt1) (pr : Rest X rest1 tb vs1) (sub : ∀ i ∈ vs1, i ∈ vs) :
    Rest X (do
      let x ← eval iter1 X.env
      standAt iter1.pos
      let x ← foldedSetIterable iter1 X.env x
      let _ ← runOwn (.compStart (.SetComp elt gens scope pos) d (← holding [x] (pyIter x)) acc X.env) X.env) (tNext1 wi1 g1 tt1 tb vs1) vs := by
  intro ps t τ G Y I q
  have h := pi1.run ps t τ G _ I q
  rw [hx] at h
  refine wpAny_bind (thnF h fun x t1 h1 => ?_)
  refine wpAny_bind (wpAny_standAt (wpAny_bind (wpAny_of_eq (hs x) (wpAny_bind (wpAny_holding (thnF h1 fun iv t2 h2 => ?_))))))
  obtain ⟨it1, fp1, tn1, J1, G2, e, I2, T1, st2, fo2, q2⟩ := h2
  subst e
  refine wpAny_bind (wpAny_runOwn ?_)
  rw [Around.mark_none]
  have keep : ∀ (j : Nat) v, (wipe τ vs)[j]? = some (some v) → (wipe τ vs1)[j]? = some (some v) := fun j v e => by
    obtain ⟨e1, e2⟩ := wipe_some e
    rw [wipe_out fun z => e2 (sub j z)]
    exact e1
  refine codeAny_mono (R := fun r t' => r = .ok .next ∧ ∃ G', Inv X ps (wipe τ vs1) G' t' ∧ Y G') (clause_start hg ha (clause_run hx hc (ht _) pg pt pr T1 (I2.weak (wipe_length _ _) fun j v e => (wipe_some e).1) st2 fo2 q2 fun t' G' I' z => ⟨rfl, G', I', z⟩) T1 st2) fun r t' ⟨er, G', I', z⟩ => ?_
  subst er
  have fin : ∃ σ' H', Inv X ps σ' H' t' ∧ σ'.length = τ.length ∧ (∀ (j : Nat) v, (wipe τ vs)[j]? = some (some v) → σ'[j]? = some (some v)) ∧ Y H' := ⟨_, G', I', wipe_length _ _, keep, z⟩
  first
    | exact wpAny_pure fin
    | exact wpAny_bind (wpAny_pure (wpAny_pure fin))
end
theorem turn_out {elt tg iter tg1 iter1 : Expr} {ifs ifs1 : List Expr} {scope : Scope} {pos : Pos} {it acc : Value} {env : Env} :
    compTurn (.SetComp elt [⟨tg, iter, ifs, 0⟩, ⟨tg1, iter1, ifs1, 0⟩] scope pos) 0 it acc env = clTurn tg iter ifs env it (do
      let x ← eval iter1 env
      standAt iter1.pos
      let x ← foldedSetIterable iter1 env x
      let _ ← runOwn (.compStart (.SetComp elt [⟨tg, iter, ifs, 0⟩, ⟨tg1, iter1, ifs1, 0⟩] scope pos) 1 (← holding [x] (pyIter x)) acc env) env) (.compLoop (.SetComp elt [⟨tg, iter, ifs, 0⟩, ⟨tg1, iter1, ifs1, 0⟩] scope pos) 0 it acc env) := by
  unfold clTurn
  simp only [bind_assoc, pure_bind]
  rfl
theorem turn_in {elt tg iter tg1 iter1 : Expr} {ifs ifs1 : List Expr} {scope : Scope} {pos : Pos} {it acc : Value} {env : Env} :
    compTurn (.SetComp elt [⟨tg, iter, ifs, 0⟩, ⟨tg1, iter1, ifs1, 0⟩] scope pos) 1 it acc env = clTurn tg1 iter1 ifs1 env it (do let v ← eval elt env; standAt elt.pos; let _ ← call (.builtin "set.add") [acc, v]) (.compLoop (.SetComp elt [⟨tg, iter, ifs, 0⟩, ⟨tg1, iter1, ifs1, 0⟩] scope pos) 1 it acc env) := by rfl
section
variable {X : Cx}
/-- {elt for tg in iter if .. for tg1 in iter1 if ..}, elt a whole number: D the new set -/
def tSc2 (w : World) (wi : TI) (g : TG) (tt : TT) (wi1 : TI) (g1 : TG) (tt1 : TT) (te : TE) (vs vs1 : List Nat) : TE := fun σ H Q => wi σ H fun J H1 => ∀ D, H1 D = none →
  ClQ J g tt (tNext1 wi1 g1 tt1 (tAdd w D te) vs1) vs σ (upd H1 D (SetO w D (fun _ => false) 0)) (Q (.ref D))
theorem pe_sc2 {elt tg iter tg1 iter1 : Expr} {ifs ifs1 : List Expr} {scope : Scope} {own : List (Str × Nat)} {vs1 : List Nat} {pos : Pos} {wi wi1 : TI} {g g1 : TG} {tt tt1 : TT} {te : TE} (hc : X.calm = true) (hN : X.N.Nodup) (hi : PI X tg iter wi) (ok : BlkOk X.N X.env.scope scope own) (sub : ∀ i ∈ vs1, i ∈ own.map (·.2))
    (pg : ∀ (s : Shared) (H : Hp) (C : Addr) (cl : List (Str × Addr)) (fp : List Addr), PG (X.blk s H scope (compEnvC scope cl C X.env) fp) tg g) (pt : ∀ (s : Shared) (H : Hp) (C : Addr) (cl : List (Str × Addr)) (fp : List Addr), PTs (X.blk s H scope (compEnvC scope cl C X.env) fp) ifs tt)
    (hi1 : ∀ (s : Shared) (H : Hp) (C : Addr) (cl : List (Str × Addr)) (fp : List Addr), PI (X.blk s H scope (compEnvC scope cl C X.env) fp) tg1 iter1 wi1)
    (pg1 : ∀ (s : Shared) (H : Hp) (C : Addr) (cl : List (Str × Addr)) (fp : List Addr), PG (X.blk s H scope (compEnvC scope cl C X.env) fp) tg1 g1) (pt1 : ∀ (s : Shared) (H : Hp) (C : Addr) (cl : List (Str × Addr)) (fp : List Addr), PTs (X.blk s H scope (compEnvC scope cl C X.env) fp) ifs1 tt1)
    (pe : ∀ (s : Shared) (H : Hp) (C : Addr) (cl : List (Str × Addr)) (fp : List Addr), PE (X.blk s H scope (compEnvC scope cl C X.env) fp) elt te) (hs : ∀ x, foldedSetIterable iter X.env x = pure x := by intro _; rfl) (hs1 : ∀ env x, foldedSetIterable iter1 env x = pure x := by intro _ _; rfl) :
    PE X (.SetComp elt [⟨tg, iter, ifs, 0⟩, ⟨tg1, iter1, ifs1, 0⟩] scope pos) (tSc2 X.w wi g tt wi1 g1 tt1 te (own.map (·.2)) vs1) := by
  refine ⟨fun pins s σ H Q I h => ?_⟩
  have closed : ∀ y ∈ scope.names, y.2 = .free → ∃ c, X.env.cells.lookup y.1 = some c := fun y hy e => (ok.free y hy e).elim (fun k => I.ok.has _ (.inl k)) fun k => I.ok.has _ (.inr k)
  show wpAny _ _ (comprehension (.SetComp elt [⟨tg, iter, ifs, 0⟩, ⟨tg1, iter1, ifs1, 0⟩] scope pos) scope X.env _ (newSet (.type "set")) _ (eval iter X.env)) _ _ s
  refine wpAny_comprehension_free (use := none) rfl hs (closure_ok closed) ok.kind (fun y hy e => by rw [ok.uniq y hy, e]) (thn (hi.run pins s σ H _ I h) fun xv t1 hx => thn hx fun iv t2 h2 => ?_)
  obtain ⟨it, fp, tn, J, H2, e, I2, T, st2, fo2, q⟩ := h2
  subst e
  refine PpSet.newSet_ok (newEnv_comp ?_)
  generalize hD : t2.heap.objs.size = D
  have q := q D (I2.hok.fresh (Nat.le_of_eq hD))
  generalize ht3 : ({ t2 with heap := t2.heap.push { cls := .type "set", dict := none, data := .set #[] 0 (.fresh 0 0 (!X.w.params.followText "set-order")) } } : Shared) = t3
  generalize hH3 : upd H2 D (SetO X.w D (fun _ => false) 0) = H3 at q
  have e3 : t3.heap = t2.heap.push { cls := .type "set", dict := none, data := .set #[] 0 (.fresh 0 0 (!X.w.params.followText "set-order")) } := by rw [← ht3]
  have I3 : Inv X pins σ H3 t3 := by
    rw [← ht3, ← hH3]
    refine I2.laid (t' := t2.toks) (fun b o e => Heap.get?_push_of_some _ e) (Nat.le_of_eq hD) ?_
    rw [← hD]
    exact setO_new (setR_fresh X.w)
  have young : ∀ b ∈ fp, b < t2.heap.objs.size := fun b hb => by
    obtain ⟨o, e, _⟩ := T.obj _ _ st2 b hb
    exact Heap.lt_size e
  have fo3 : ∀ b ∈ fp, FpOk X pins H3 b ∧ b < t3.heap.objs.size := fun b hb => by
    have lt := young b hb
    have ne : b ≠ D := by
      rw [← hD]
      exact Nat.ne_of_lt lt
    refine ⟨⟨?_, (fo2 b hb).2⟩, by rw [e3, Heap.size_push]; exact Nat.lt_succ_of_lt lt⟩
    rw [← hH3, upd_ne ne]
    exact (fo2 b hb).1
  have I4 := block_start I3 ok hN fo3
  generalize hcl : cellsFrom (t3.heap.objs.size + 1) scope.names (cloFrom X.env.cells scope.names []) = cl at I4
  have pg := pg t3 H3 t3.heap.objs.size cl fp
  have pt := pt t3 H3 t3.heap.objs.size cl fp
  have pi1 := hi1 t3 H3 t3.heap.objs.size cl fp
  have pg1 := pg1 t3 H3 t3.heap.objs.size cl fp
  have pt1 := pt1 t3 H3 t3.heap.objs.size cl fp
  have pe := pe t3 H3 t3.heap.objs.size cl fp
  show codeAny _ _ (.compStart (.SetComp elt [⟨tg, iter, ifs, 0⟩, ⟨tg1, iter1, ifs1, 0⟩] scope pos) 0 (.ref it) (.ref D) (compEnvC scope cl t3.heap.objs.size X.env)) _ { t3 with heap := pushCells (t3.heap.push { cls := .type "dict", data := .dict #[] }) scope.names }
  generalize ht4 : ({ t3 with heap := pushCells (t3.heap.push { cls := .type "dict", data := .dict #[] }) scope.names } : Shared) = t4 at I4 ⊢
  have st4 : tn 0 t4.heap := T.keep _ _ _ st2 fun b _ o e => by
    rw [← ht4]
    exact pushCells_keeps _ _ _ _ (Heap.get?_push_of_some _ (by rw [e3]; exact Heap.get?_push_of_some _ e))
  have fo4 : ∀ b ∈ fp, FpOk (X.blk t3 H3 scope (compEnvC scope cl t3.heap.objs.size X.env) fp) [] H3 b := fun b hb =>
    ⟨(fo3 b hb).1.1, (I4.ok.exf b hb).1, I4.ok.exfs b hb, .inl hb, fun x c e => (I4.ok.exf b hb).2 x c e, fun p hp => absurd (show p ∈ ([] : List (Addr × Obj)) ++ [] from hp) (by simp)⟩
  have run := clause_run (X := X.blk t3 H3 scope (compEnvC scope cl t3.heap.objs.size X.env) fp) (elt := elt) (gens := [⟨tg, iter, ifs, 0⟩, ⟨tg1, iter1, ifs1, 0⟩]) (scope := scope) (pos := pos) (d := 0) (acc := .ref D) (iter := iter) (R := compPost (model X.prog X.w) X.A X.xe none (EP X pins σ Q) (.ref D) t3.heap.objs.size) rfl hc turn_out pg pt
    (rest_next (X := X.blk t3 H3 scope (compEnvC scope cl t3.heap.objs.size X.env) fp) (elt := elt) (gens := [⟨tg, iter, ifs, 0⟩, ⟨tg1, iter1, ifs1, 0⟩]) (scope := scope) (pos := pos) (acc := .ref D) (iter1 := iter1) (d := 1) rfl hc (hs1 _) rfl rfl (fun _ => turn_in) pi1 pg1 pt1 (rest_add (X := X.blk t3 H3 scope (compEnvC scope cl t3.heap.objs.size X.env) fp) (D := D) rfl pe) sub) T I4 st4 fo4 q fun t5 H5 I5 z => ?_
  · exact clause_start (X := X.blk t3 H3 scope (compEnvC scope cl t3.heap.objs.size X.env) fp) (d := 0) rfl rfl run T st4
  · have nC : H5 t3.heap.objs.size = none := I5.free
    have back : Inv X pins σ H5 t5 := I3.call' (ch := fp) I5.os I5.base I5.hok I5.bare fun b hb => ⟨(fo3 b hb).1.2.2.2.1, (fo3 b hb).1.2.1, (fo3 b hb).1.2.2.2.2.1, (fo3 b hb).1.2.2.2.2.2⟩
    obtain ⟨m, hn, _⟩ := I5.loc
    obtain ⟨f0, f1, f2, f3, f4, f5⟩ := I3.fpOk (Nat.le_refl _) nC
    refine ⟨m, hn, fun h'' sb => ?_⟩
    exact ⟨.ref D, H5, back.turned (t' := t5.toks) (fun b o hb e => (sb.2 b hb).trans e) f0 f1 f3 f4 f5, rfl, z⟩
theorem w_sc2 {w : World} {wi wi1 : TI} {g g1 : TG} {tt tt1 : TT} {te : TE} {vs vs1 : List Nat} {σ : L2.St} {H : Hp} {Q : VK} (q : wi σ H fun J H1 => ∀ D, H1 D = none → ClQ J g tt (tNext1 wi1 g1 tt1 (tAdd w D te) vs1) vs σ (upd H1 D (SetO w D (fun _ => false) 0)) (Q (.ref D))) : tSc2 w wi g tt wi1 g1 tt1 te vs vs1 σ H Q := q
/-- a clause over a tuple that stands still -/
theorem cl_tup {K : PySem.W.Frag} {a : Addr} {xs : List V} {g : TG} {tt : TT} {tb : L2.St → Hp → (Hp → Prop) → Prop} {vs : List Nat} {σ : L2.St} {H : Hp} {Z : Hp → Prop} (Pv : Nat → Hp → Prop) (h0 : Pv 0 H) (hl : ∀ i H, i ≤ xs.length → Pv i H → SqT K H a xs)
    (step : ∀ i x H, xs[i]? = some x → Pv i H → g x (wipe σ vs) H fun σ2 H2 => wipe σ2 vs = wipe σ vs ∧ tt σ2 H2 fun b H3 => if b = true then tb σ2 H3 (Pv (i + 1)) else Pv (i + 1) H3) (last : ∀ H, Pv xs.length H → Z H) : ClQ (Itt K a) g tt tb vs σ H Z := by
  refine ⟨fun i m G => m = xs.length - i ∧ i ≤ xs.length ∧ Pv i G, ⟨_, rfl, Nat.zero_le _, h0⟩, ?_⟩
  rintro i m G ⟨rfl, hi, p⟩
  have sq := hl i G hi p
  rcases Nat.lt_or_ge i xs.length with lt | ge
  · refine .inr ⟨⟨xs, xs[i], sq, List.getElem?_eq_getElem lt⟩, Pv (i + 1), fun G' p' => ⟨_, by omega, rfl, lt, p'⟩, fun x G' ⟨e, y⟩ => ?_⟩
    subst e
    exact step i x G' (y xs sq) p
  · obtain rfl : i = xs.length := by omega
    exact .inl ⟨⟨xs, sq, Nat.le_refl _⟩, last G p⟩
end
end KG

set_option Elab.async false
set_option linter.all false
set_option maxRecDepth 100000
set_option maxHeartbeats 1000000
/-! KF: for i, c in enumerate(x), x a text. -/
namespace KG
open PySem PySem.Spec PySem.Calls PyProof.Rows L2
/-- the signs of x, each with its index in a new pair -/
def Iten (x : Str) : It :=
  ⟨fun i _ => i < x.cps.size, fun i H v H' => ∃ T c, v = .ref T ∧ H T = none ∧ H' = upd H T (.tup [.int (i : Nat), .str ⟨#[c]⟩]) ∧ x.cps[i]? = some c, fun i _ => i = x.cps.size⟩
theorem draws_str {prog : Program} {w : World} {A : Around} (hh : A.handled = none) (it : Addr) (x : Str) (t : Tok) :
    Draws prog w A it [it] x.cps.size (fun i v => ∃ c u, x.cps[i]? = some c ∧ v = .str ⟨#[c]⟩ u) (fun i h => h.IsStrIter it (strIterType x) x t i) := by
  unfold strIterType
  split
  · exact Draws.strAscii hh it x t
  · exact Draws.strWide hh it x t
theorem turn_enumS {P : Program} {w : World} {K : PySem.W.Frag} {elts : List Expr} {kk : Nat} {tpos : Pos} (x : Str) (t : Tok) (e it : Addr) :
    Turn P w K (.Tuple elts kk tpos) (Iten x) [e, it] e (fun i h => (∃ old, IsEnum h e it ((i : Nat) : Int) old) ∧ h.IsStrIter it (strIterType x) x t i ∧ e ≠ it) where
  mem := List.mem_cons_self
  obj := fun i h z b hb => by
    obtain ⟨⟨old, ee⟩, ⟨ob, e1, _, e3⟩, _⟩ := z
    rcases List.mem_cons.mp hb with q | q
    · exact ⟨_, q ▸ ee, fun v y => by cases y⟩
    · rw [List.mem_singleton.mp q]
      exact ⟨ob, e1, fun v y => by rw [e3] at y; cases y⟩
  keep := fun i h h' z k => by
    obtain ⟨⟨old, ee⟩, ⟨ob, e1, e2⟩, ne⟩ := z
    exact ⟨⟨old, k _ List.mem_cons_self _ ee⟩, ⟨ob, k _ (List.mem_cons_of_mem _ List.mem_cons_self) _ e1, e2⟩, ne⟩
  item := by
    intro X h1 h2 h3 hc i pins s σ H E I fo z go
    subst h1 h2 h3
    obtain ⟨⟨old, ee⟩, si, ne⟩ := z
    have le : e < s.heap.objs.size := Heap.lt_size ee
    have li : it < s.heap.objs.size := by
      obtain ⟨_, y, _⟩ := si
      exact Heap.lt_size y
    have nef : e ∉ [it] := fun y => ne (List.mem_singleton.mp y)
    have D := draws_str (prog := X.prog) (w := X.w) (A := X.A.in1) (I.ok.hd hc) it x t
    refine wpAny_pyNext_enum_itemD D ee si go ne nef fun u h' tk ⟨c, tu, ec, eu⟩ out si' ht _ kk => ?_
    subst eu
    refine ⟨_, rfl, wpAny_letOwnedTupleGo_enum (s := { s with heap := h', toks := tk + 1 }) out fun h'' ee' sb => ?_⟩
    have ht2 := (sb.2 _ (Nat.ne_of_gt le)).trans ht
    have made : ObjOk X.prog X.w (upd H s.heap.objs.size (.tup [.int (i : Nat), .str ⟨#[c]⟩])) h'' s.heap.objs.size (.tup [.int (i : Nat), .str ⟨#[c]⟩]) :=
      ⟨by show 2 ≤ sizeLine; decide, [.int i tk, .str ⟨#[c]⟩ tu], .cons ⟨_, rfl⟩ (.cons ⟨_, rfl⟩ .nil), ⟨_, ht2, rfl, _, rfl⟩⟩
    have I2 := I.turnedNew (t' := tk + 1) (ch := [e, it]) (fun b ob hb y => by
      have n1 : b ≠ e := fun q => hb (by rw [q]; exact List.mem_cons_self)
      have n2 : b ≠ it := fun q => hb (by rw [q]; exact List.mem_cons_of_mem _ List.mem_cons_self)
      exact (sb.2 b n1).trans (kk b ob n1 n2 y)) fo (Nat.le_refl _) made
    refine ⟨.ref s.heap.objs.size, _, I2, rfl, ⟨_, c, rfl, I.hok.fresh (Nat.le_refl _), rfl, ec⟩, ⟨⟨.str ⟨#[c]⟩ tu, ?_⟩, ?_, ne⟩, fun b hb => ?_⟩
    · have e1 : ((i + 1 : Nat) : Int) = (i : Int) + 1 := by omega
      rw [e1]
      exact ee'
    · obtain ⟨ob, y, r⟩ := si'
      exact ⟨ob, (sb.2 it ne.symm).trans y, r⟩
    · have lb : b < s.heap.objs.size := by
        rcases List.mem_cons.mp hb with q | q
        · exact q ▸ le
        · exact (List.mem_singleton.mp q) ▸ li
      rw [upd_ne (Nat.ne_of_lt lb)]
      exact (fo b hb).1
  done := by
    intro X h1 h2 h3 hc i pins s σ H E I fo z stop
    subst h1 h2 h3
    obtain rfl : i = x.cps.size := stop
    obtain ⟨⟨old, ee⟩, si, ne⟩ := z
    obtain ⟨g0, g1, g2, g3, g4, g5⟩ := fo it (List.mem_cons_of_mem _ List.mem_cons_self)
    have D := draws_str (prog := X.prog) (w := X.w) (A := X.A.in1) (I.ok.hd hc) it x t
    exact wpAny_pyNext_enum_endD D ee si fun h' k => ⟨rfl, I.turned (t' := s.toks) (fun b o hb y => k b o hb y) g0 g1 g3 g4 g5⟩
  self := fun A i s Q E z h => by
    obtain ⟨⟨_, ee⟩, _⟩ := z
    exact wpAny_pyIter_enum ee h
def iEnumS (ta : TA) : TI := fun σ H R => ta σ H fun vs H1 => ∃ x, vs = [.str x] ∧ R (Iten x) H1
theorem pi_enumS {X : Cx} {e : Expr} {ta : TA} {p pos tpos : Pos} {elts : List Expr} {kk : Nat} (hg : Gl X "enumerate") (hm : X.mg "enumerate" = none) (ha : PA X [e] ta) (hs : starEach [e] X.env = [(false, eval e X.env)] := by rfl) :
    PI X (.Tuple elts kk tpos) (.Call (.Name "enumerate" p) [e] [] pos) (iEnumS ta) := by
  refine ⟨fun pins s σ H R I h => Call_ (ld_blt I hg hm boot_enumerate (PyProof.Rows.callWith_type1 (thn (ha.run pos pins s σ H _ I h) fun us t ⟨vs, H1, I1, r, x, ev, q⟩ => ?_) hs rfl))⟩
  subst ev
  obtain ⟨u, eu, ru⟩ := vals1 r
  obtain ⟨tx, rfl⟩ := ru
  have eu' : us = [.str x tx] := eu
  subst eu'
  refine call_enumerate_str fun h' ee si sz k => wpAny_pyIter_enum ee ?_
  have I2 : Inv X pins σ H1 { t with heap := h' } := I1.kept (t' := t.toks) k
  refine ⟨_, [t.heap.objs.size + 1, t.heap.objs.size], _, _, H1, rfl, I2, turn_enumS x tx _ _, ⟨⟨_, ee⟩, si, Nat.succ_ne_self _⟩, fun b hb => ?_, q⟩
  have ge : t.heap.objs.size ≤ b := by
    rcases List.mem_cons.mp hb with y | y
    · rw [y]
      exact Nat.le_succ _
    · exact Nat.le_of_eq (List.mem_singleton.mp y).symm
  exact I1.fpOk ge (I1.hok.fresh ge)
end KG

set_option Elab.async false
set_option linter.all false
set_option maxRecDepth 100000
set_option maxHeartbeats 1000000
/-! KW2: classmethods with defaults, by keywords alone; an own object called by keywords alone. -/
namespace KG
open PySem PySem.Spec PySem.Calls PyProof.Rows L2
section
variable {X : Cx} {CX : CXT} {k : Nat} {C p g f : Addr} {mc : Value} {fd : FuncData} {ps ks : List Str} {sp : Sp} {E : XK} {o e : Expr} {es : List Expr} {kws : List Keyword} {m x : Str} {pos apos : Pos} {ta : TE} {t tk : TA} {dvs : List V} {ds : List Value} {gg : List Value → List Value → List Value} {gV : List V → List V → List V}
/-- o.m(e, ..), o the class, m a classmethod, the last arguments by default -/
def tCmD (C : Addr) (sp : Sp) (dvs : List V) (E : XK) (ta : TE) (t : TA) : TE := fun σ H Q => ta σ H fun x H1 => x = .ref C ∧ t σ H1 fun vs H2 => sp (.ref C :: (vs ++ dvs)) H2 Q E
theorem run_cm {q : Addr} {pins : List (Addr × Obj)} {σ : L2.St} {H : Hp} {s : Shared} {Q : VK} {us zs : List Value} {kw : List (Str × Value)} {vs : List V} (F : Gd X.prog X.w X.K X.mg X.base CX k g fd ps sp) (rm : Room k X.A) (gd : X.A.guards = some []) (hx : Passes CX X E)
    (J : Inv X ((q, PySem.W.methodObj (.ref g) (.ref C)) :: pins) σ H s) (bt : BindsTo s fd ⟨.ref C :: us, kw⟩ (ps.zip zs)) (r : Vals vs zs) (z : sp vs H Q E) : wpAny (model X.prog X.w) X.A (call (.ref q) us kw) (EP X pins σ Q) X.xe s := by
  have run : wpAny (model X.prog X.w) X.A (call (.ref q) us kw) (EP X ((q, PySem.W.methodObj (.ref g) (.ref C)) :: pins) σ Q) X.xe s := by
    refine wpAny_call (PySem.W.method_call (ClX.pin_at J) (codeAny_mono (F.go X.A X.stack s H ⟨.ref C :: us, kw⟩ zs vs Q E rm gd J.env0 bt r z) fun out s4 z4 => ?_))
    match out, z4 with
    | .error er, z4 => exact hx _ σ H s er s4 J z4
    | .ok (.ret v), z4 => exact J.after z4
  exact thn run fun _ _ y => ClX.unpinE y
theorem pe_gcmD {pl : Sem Bool} (he : PE X o ta) (r : ClX.CRead X.K C mc) (c : ClX.CMet X.K C mc m p g) (F : Gd X.prog X.w X.K X.mg X.base CX k g fd ps sp) (rm : Room k X.A) (gd : X.A.guards = some []) (hb : Binds X.K fd ps ds) (hd : Vals dvs ds) (hx : Passes CX X E) (ha : PA X (e :: es) t)
    (hst : starEach (e :: es) X.env = (false, eval e X.env) :: starEach es X.env := by rfl) (hpl : (backTo pos (starEach es X.env)).any (·.1) = false := by rfl)
    (ht : eval (.Call (.Attribute o m apos) (e :: es) [] pos) X.env = (do
      let w ← eval o X.env
      standAt apos.atName
      let (g, a) ← holding [w] (getMethod w m pl)
      callWith pos g a (backTo pos (starEach (e :: es) X.env)) (backToKw pos (keywordEach [] X.env))) := by rfl) :
    PE X (.Call (.Attribute o m apos) (e :: es) [] pos) (tCmD C sp dvs E ta t) := by
  refine ⟨fun pins s σ H Q I z => PySem.W.methodCall_KW (pl := pl) (thn (he.run pins s σ H _ I z) fun u s1 z1 => ?_) ht⟩
  obtain ⟨_, H1, J, ru, rfl, q⟩ := z1
  obtain rfl : u = Value.ref C := ru
  refine ClX.getmethcm_ok J r c fun s2 J2 => ClX.callwith_cm J2 (ClX.base_none J (Nat.le_refl _)) c.fi (thn (ha.run pos _ s2 σ H1 _ J2 q) fun us s3 z3 => ?_) hst hpl
  obtain ⟨vs, H2, J3, rv, q2⟩ := z3
  have all : Vals (V.ref C :: (vs ++ dvs)) (Value.ref C :: (us ++ ds)) := .cons rfl (rv.append hd)
  have bt : BindsTo s3 fd ⟨.ref C :: us, []⟩ (ps.zip (.ref C :: (us ++ ds))) := hb s3 (.ref C :: us) J3.kIn (by
    have := F.len _ _ _ _ q2
    rw [all.length] at this
    exact this)
  exact ⟨⟨ClX.pin_at J3, J3.kIn⟩, run_cm F rm gd hx J3 bt all q2⟩
/-- o.m(k = v, ..), o the class, m a classmethod -/
def tCmK (C : Addr) (j : Nat) (sp : Sp) (gV : List V → List V → List V) (E : XK) (ta : TE) (tk : TA) : TE := fun σ H Q => ta σ H fun x H1 => x = .ref C ∧ tk σ H1 fun zs H2 => zs.length = j ∧ sp (gV [.ref C] zs) H2 Q E
theorem pe_gcmK {pl : Sem Bool} (he : PE X o ta) (r : ClX.CRead X.K C mc) (c : ClX.CMet X.K C mc m p g) (F : Gd X.prog X.w X.K X.mg X.base CX k g fd ps sp) (rm : Room k X.A) (gd : X.A.guards = some []) (hb : KBn X.K fd ps 1 ks gg gV) (hx : Passes CX X E) (hkw : PK X kws tk)
    (hall : (backToKw pos (keywordEach kws X.env)).all (·.1.isSome) = true := by rfl) (hks : (backToKw pos (keywordEach kws X.env)).filterMap (·.1) = ks := by rfl)
    (hpl : ((backTo pos (starEach [] X.env)).any (·.1) || (backToKw pos (keywordEach kws X.env)).any (·.1.isNone)) = false := by rfl)
    (ht : eval (.Call (.Attribute o m apos) [] kws pos) X.env = (do
      let w ← eval o X.env
      standAt apos.atName
      let (g, a) ← holding [w] (getMethod w m pl)
      callWith pos g a (backTo pos (starEach [] X.env)) (backToKw pos (keywordEach kws X.env))) := by rfl) :
    PE X (.Call (.Attribute o m apos) [] kws pos) (tCmK C ks.length sp gV E ta tk) := by
  refine ⟨fun pins s σ H Q I z => PySem.W.methodCall_KW (pl := pl) (thn (he.run pins s σ H _ I z) fun u s1 z1 => ?_) ht⟩
  obtain ⟨_, H1, J, ru, rfl, q⟩ := z1
  obtain rfl : u = Value.ref C := ru
  refine ClX.getmethcm_ok J r c fun s2 J2 => ?_
  refine PySem.W.callWith_of hpl (PySem.W.keeps_M (self := .ref C) c.fi) (evalArgs_kw2_nil hall (thn (hkw.run pos _ s2 σ H1 _ J2 q) fun ws s3 z3 => ?_))
  obtain ⟨zs, H2, J3, rz, lz, q2⟩ := z3
  refine ⟨⟨ClX.pin_at J3, J3.kIn⟩, ?_⟩
  rw [hks]
  have r1 : Vals [V.ref C] [Value.ref C] := .cons rfl .nil
  exact run_cm F rm gd hx J3 (hb.to s3 [.ref C] ws J3.kIn rfl (rz.length.symm.trans lz)) (hb.rel r1 rz) q2
/-- o(k = v, ..), o an own object that a name holds -/
def tOwnK (C : Addr) (j : Nat) (sp : Sp) (gV : List V → List V → List V) (E : XK) (n : Nat) (tk : TA) : TE := fun σ H Q => ∃ a : Addr, σ[n]? = some (some (.ref a)) ∧ tk σ H fun zs H1 => zs.length = j ∧ ∃ dx fs, H1 a = some (.ins C dx fs) ∧ sp (gV [.ref a] zs) H1 Q E
theorem pe_ownK {n : Nat} (O : PySem.W.findIn X.K (.ref C) "__call__" = some (some (.ref f))) (fn : PySem.W.isFn X.K (.ref f) = true) (fi : PySem.W.fnIn X.K f = true) (F : Gd X.prog X.w X.K X.mg X.base CX k f fd ps sp) (rm : Room k X.A) (gd : X.A.guards = some []) (hb : KBn X.K fd ps 1 ks gg gV) (hx : Passes CX X E)
    (hv : PE X (.Name x apos) (tVar n)) (hkw : PK X kws tk) (hall : (backToKw pos (keywordEach kws X.env)).all (·.1.isSome) = true := by rfl) (hks : (backToKw pos (keywordEach kws X.env)).filterMap (·.1) = ks := by rfl)
    (hpl : ((backTo pos (starEach [] X.env)).any (·.1) || (backToKw pos (keywordEach kws X.env)).any (·.1.isNone)) = false := by rfl) :
    PE X (.Call (.Name x apos) [] kws pos) (tOwnK C ks.length sp gV E n tk) := by
  refine ⟨fun pins s σ H Q I z => ?_⟩
  obtain ⟨a, ea, q⟩ := z
  refine wpAny_Call_Name_kw (thn (hv.run pins s σ H (fun v H' => v = .ref a ∧ tk σ H' fun zs H1 => zs.length = ks.length ∧ ∃ dx fs, H1 a = some (.ins C dx fs) ∧ sp (gV [.ref a] zs) H1 Q E) I ⟨_, ea, rfl, q⟩) fun u s1 z1 => ?_)
  obtain ⟨_, H1, J, ru, rfl, q1⟩ := z1
  obtain rfl : u = Value.ref a := ru
  have body : wpAny (model X.prog X.w) X.A (evalArgs (.ref a) true (backTo pos (starEach [] X.env)) (backToKw pos (keywordEach kws X.env))) (fun b s2 => (∃ ox od, PySem.W.InstAt s2.heap a ox C od ∧ ox.data = .plain) ∧ wpAny (model X.prog X.w) X.A (call (.ref a) b.pos b.kw) (EP X pins σ Q) X.xe s2) X.xe s1 := by
    refine evalArgs_kw2_nil hall (thn (hkw.run pos pins s1 σ H1 _ J q1) fun ws s2 z2 => ?_)
    obtain ⟨zs, H2, J2, rz, lz, dx, fs, ha, q2⟩ := z2
    obtain ⟨mA, Z, _⟩ := ins_get J2.hok ha
    obtain ⟨od, Z, zd⟩ := Z.look
    refine ⟨⟨_, od, Z, by first | exact zd | rfl⟩, wpAny_call (PySem.W.kco_code J2.kIn Z (by first | exact zd | rfl) O fn fi ?_)⟩
    rw [hks]
    have r1 : Vals [V.ref a] [Value.ref a] := .cons rfl .nil
    refine codeAny_mono (F.go X.A X.stack s2 H2 ⟨[.ref a], ks.zip ws⟩ _ _ _ E rm gd J2.env0 (hb.to s2 [.ref a] ws J2.kIn rfl (rz.length.symm.trans lz)) (hb.rel r1 rz) q2) fun out s' hq => ?_
    match out, hq with
    | .error e, hq => exact hx pins σ H2 s2 e s' J2 hq
    | .ok (.ret v), hq => exact J2.after hq
  unfold callWith
  refine wpAny_bind (wpAny_holding (wpAny_mono body (fun b s2 z2 => wpAny_bind (wpAny_standAt ?_)) fun _ _ y => y))
  obtain ⟨⟨ox, od, Z, zd⟩, run⟩ := z2
  simp only [hpl]
  refine wpAny_bind ((PySem.W.kco_keeper (M := model X.prog X.w) Z zd).here ?_)
  have behind : ∀ {tt : Sem Value}, wpAny (model X.prog X.w) X.A tt (EP X pins σ Q) X.xe s2 → wpAny (model X.prog X.w) X.A (tt >>= fun r => holding [r] point >>= fun _ => pure r) (EP X pins σ Q) X.xe s2 := fun y =>
    wpAny_bind (wpAny_mono y (fun r s3 y3 => wpAny_bind (wpAny_holding (wpAny_point (wpAny_pure y3)))) fun _ _ y3 => y3)
  exact behind (wpAny_operateT run)
end
end KG

set_option Elab.async false
set_option linter.all false
set_option maxRecDepth 100000
set_option maxHeartbeats 1000000
/-! KC2: an instance made by the class's name alone, all of its __init__'s arguments by default. -/
namespace KG
open PySem PySem.Spec PySem.Calls PyProof.Rows L2
theorem pe_gmake0 {X : Cx} {CX : CXT} {k : Nat} {C f : Addr} {fd : FuncData} {ps : List Str} {sp : Sp} {E : XK} {x : Str} {p pos : Pos} {ds : List Value} {dvs : List V} (M : Mk X.K C f) (F : Gd X.prog X.w X.K X.mg X.base CX k f fd ps sp) (rm : Room (k + 1) X.A) (gd : X.A.guards = some []) (gl : Gl X x) (at_ : X.mg x = some (.ref C))
    (hb : Binds X.K fd ps ds) (hd : Vals dvs ds) (hx : Passes CX X E) (hdb : (x == ("__debug__" : Str)) = false := by decide) : PE X (.Call (.Name x p) [] [] pos) (tMake C sp dvs E tNil) := by
  refine ⟨fun pins s σ H Q I h => wpAny_Call_Name_kw (ld_glob I gl at_ (PySem.W.callWith_K0 (first := []) I.kIn M.kp ?_) hdb)⟩
  have rr : ∀ y : Addr, Vals (V.ref y :: dvs) (Value.ref y :: ds) := fun y => .cons rfl hd
  have hl : ∀ y : Addr, (Value.ref y :: ds).length = ps.length := fun y => by
    have e := (rr y).length
    have q1 := h (s.heap.objs.size + 1) s.heap.objs.size (I.hok.fresh (Nat.le_succ _)) (I.hok.fresh (Nat.le_refl _)) (Nat.ne_of_lt (Nat.lt_succ_self _))
    have e1 := F.len _ _ _ _ q1
    rw [← e, ← e1]
    simp
  exact run_gmake (us := []) (fun y => y :: ds) (fun y => y :: dvs) M F rm gd (fun s y KX => hb s [.ref y] KX (hl y)) rr hx I h
end KG

set_option Elab.async false
set_option linter.all false
set_option maxRecDepth 100000
set_option maxHeartbeats 1000000
/-! KY: a choice within a generator's body. -/
namespace KG
open PySem PySem.Spec PySem.Calls PyProof.Rows L2
section
variable {X : Cx} {test : Expr} {a b : List Stmt} {pos : Pos} {tc : TT} {ta tb : TGn}
def tGIf (tc : TT) (ta tb : TGn) : TGn := fun D ys σ H => tc σ H fun d H1 => if d = true then ta D ys σ H1 else tb D ys σ H1
theorem gs_if (hc : PT X test tc) (ha : GSs X a ta) (hb : GSs X b tb) : GS X (.If test a b pos) (tGIf tc ta tb) := by
  refine ⟨fun A S ip R n ys s₀ c fs K J gd lv s σ H D g hn k hI z => ?_⟩
  obtain ⟨acc, cc, r, I⟩ := hI
  rw [exec_If]
  refine seg_at ?_
  show Seg _ _ _ _ _ _ _ ((isTrue test X.env (eval test X.env) >>= fun d => if d = true then execs a X.env else execs b X.env).wrap K J gd lv) fs s
  rw [Sem.bind_eq_wrap', Sem.wrap_wrap]
  refine seg_wrap ?_
  rw [g.over]
  refine wpAny_mono (hc.run _ s σ H _ I z) (fun d s' z1 => ?_) fun x s' hx => k.exc n s₀ x s' hx
  obtain ⟨H1, I1, q⟩ := z1
  cases d with
  | true => exact ha.run A S ip R n ys s₀ c fs K J gd lv s' σ H1 D g hn k ⟨acc, cc, r, I1⟩ q
  | false => exact hb.run A S ip R n ys s₀ c fs K J gd lv s' σ H1 D g hn k ⟨acc, cc, r, I1⟩ q
end
end KG

set_option Elab.async false
set_option linter.all false
set_option maxRecDepth 100000
set_option maxHeartbeats 1000000
namespace KG
open PySem PySem.Spec PySem.Calls PyProof.Rows L2
section
variable {M : Model} {A : Around} {R : GenEnd} {Y : Protocol} {n : Nat} {s₀ s : Shared} {c : Code} {fs : List Frame} {env : Env} {K : Flow → Sem PySem.Fin} {J : Value → Sem PySem.Fin} {gd : Bool → Bool} {lv : List Value → List Value} {target iter : Expr} {body : List Stmt} {pos : Pos}
/-- a loop over items within a generator's body: up to the loop's own code -/
theorem seg_forIn (hs : ∀ x, foldedSetIterable iter env x = pure x)
    (h : wpAny M (A.over c fs) (eval iter env) (fun x s1 => wpAny M (A.over c fs) (pyIter x) (fun it s2 => ∀ p, Seg M A R Y n s₀ (.forLoop target it body [] env) (M.den (.forLoop target it body [] env))
      (.ret (fun r => ((match r with | .ok f => (.pure f : Sem Flow) | .error e => .raise e).onRaise (cameBack env)).wrap K J gd lv) none (gd false) (lv []) c p [] :: fs) s2) (fun x s' => Seg M A R Y n s₀ c (J x) fs s') s1) (fun x s' => Seg M A R Y n s₀ c (J x) fs s') s) :
    Seg M A R Y n s₀ c ((exec (.For target iter body [] pos) env).wrap K J gd lv) fs s := by
  rw [exec_For]
  refine seg_at ?_
  show Seg _ _ _ _ _ _ _ ((eval iter env >>= fun v => foldedSetIterable iter env v >>= fun x => standAt iter.pos >>= fun _ => holding [x] (pyIter x) >>= fun it => runOwn (.forLoop target it body [] env) env).wrap K J gd lv) fs s
  rw [Sem.bind_eq_wrap', Sem.wrap_wrap]
  refine seg_wrap (wpAny_mono h (fun x s1 h1 => ?_) fun _ _ z => z)
  rw [hs x]
  show Seg _ _ _ _ _ _ _ ((standAt iter.pos >>= fun _ => holding [x] (pyIter x) >>= fun it => runOwn (.forLoop target it body [] env) env).wrap K J gd lv) fs s1
  refine seg_at ?_
  show Seg _ _ _ _ _ _ _ ((holding [x] (pyIter x) >>= fun it => runOwn (.forLoop target it body [] env) env).wrap K J gd lv) fs s1
  rw [Sem.bind_eq_wrap', Sem.wrap_wrap]
  refine seg_wrap (wpAny_holding (wpAny_mono h1 (fun it s2 h2 => ?_) fun _ _ z => z))
  exact seg_call h2
end
section
variable {prog : Program} {w : World} {A : Around} {R : GenEnd} {Y : Protocol} {n : Nat} {s₀ s : Shared} {fs : List Frame} {env : Env} {target : Expr} {it : Value} {body : List Stmt}
/-- an exception in a loop's code within a generator's body -/
def SegX (prog : Program) (w : World) (A : Around) (R : GenEnd) (Y : Protocol) (n : Nat) (s₀ : Shared) (c : Code) (fs : List Frame) (env : Env) (x : Value) (s : Shared) : Prop :=
  Seg (model prog w) A R Y n s₀ c ((do noteFrame x env; theTreesLotGoes x : Sem Unit).bind fun _ => (.raise x : Sem PySem.Fin)) fs s
theorem seg_forTurn
    (h : wpAny (model prog w) (A.over (.forLoop target it body [] env) fs) (pyNext it) (fun r s1 => match r with
      | none => Seg (model prog w) A R Y n s₀ (.forLoop target it body [] env) (.pure (.again (.block [] env))) fs s1
      | some v => wpAny (model prog w) (A.over (.forLoop target it body [] env) fs) (letOwnedTupleGo target it v) (fun _ s2 => wpAny (model prog w) (A.over (.forLoop target it body [] env) fs) (assign target env v) (fun _ s3 =>
          Seg (model prog w) A R Y n s₀ (.forLoop target it body [] env) ((execs body env).wrap (fun f => match f with
            | .next | .cont => .pure (.again (.forLoop target it body [] env))
            | .brk => .pure (.done .next)
            | .ret v => .pure (.done (.ret v))) (fun x => (do noteFrame x env; theTreesLotGoes x : Sem Unit).bind fun _ => .raise x) id id) fs s3)
          (SegX prog w A R Y n s₀ (.forLoop target it body [] env) fs env) s2) (SegX prog w A R Y n s₀ (.forLoop target it body [] env) fs env) s1)
      (SegX prog w A R Y n s₀ (.forLoop target it body [] env) fs env) s) :
    Seg (model prog w) A R Y n s₀ (.forLoop target it body [] env) ((model prog w).den (.forLoop target it body [] env)) fs s := by
  show Seg _ A R Y n s₀ _ ((forTurn target it body [] env).onRaise (fun x => do noteFrame x env; theTreesLotGoes x)) fs s
  rw [Sem.onRaise_eq_wrap]
  unfold forTurn
  refine seg_at ?_
  show Seg _ A R Y n s₀ _ (Sem.wrap _ _ _ _ ((pyNext it).onRaise (fun _ => standAt { target.pos with line := 0 }) >>= _)) fs s
  rw [Sem.bind_eq_wrap', Sem.wrap_wrap]
  refine seg_wrap (wpAny_onRaise (wpAny_mono h (fun r s1 h1 => ?_) fun x s1 h1 => wpAny_standAt h1))
  cases r with
  | none => exact h1
  | some v =>
    show Seg _ A R Y n s₀ _ (Sem.wrap _ _ _ _ (letOwnedTupleGo target it v >>= _)) fs s1
    rw [Sem.bind_eq_wrap', Sem.wrap_wrap]
    refine seg_wrap (wpAny_mono h1 (fun _ s2 h2 => ?_) fun x s2 h2 => h2)
    show Seg _ A R Y n s₀ _ (Sem.wrap _ _ _ _ (assign target env v >>= _)) fs s2
    rw [Sem.bind_eq_wrap', Sem.wrap_wrap]
    refine seg_wrap (wpAny_mono h2 (fun _ s3 h3 => ?_) fun x s3 h3 => h3)
    show Seg _ A R Y n s₀ _ (Sem.wrap _ _ _ _ (execs body env >>= _)) fs s3
    rw [Sem.bind_eq_wrap', Sem.wrap_wrap]
    refine Eq.mp (congrArg (fun z => Seg (model prog w) A R Y n s₀ (.forLoop target it body [] env) z fs s3) (Sem.wrap_congr (execs body env) id id (fun f => ?_) (fun e => ?_))) h3
    · cases f <;> rfl
    · rfl
end
end KG

set_option Elab.async false
set_option linter.all false
set_option maxRecDepth 100000
set_option maxHeartbeats 1000000
namespace KG
open PySem PySem.Spec PySem.Calls PyProof.Rows L2
section
variable {X : Cx} {tg iter : Expr} {body : List Stmt} {wi : TI} {g : TG} {tb : TGn} {pos : Pos}
/-- for within a generator's body: W tells turn, measure, what is out, the places, the heap -/
def tGFor (wi : TI) (g : TG) (tb : TGn) : TGn := fun D ys σ H => wi σ H fun J H1 => ∃ W : Nat → Nat → List V → L2.St → Hp → Prop, (∃ m, W 0 m ys σ H1) ∧ ∀ i m ys σ H, W i m ys σ H →
  (J.stop i H ∧ D.nx ys σ H) ∨ (J.go i H ∧ ∃ N : List V → L2.St → Hp → Prop, (∀ ys' σ' H', N ys' σ' H' → ∃ m', m' < m ∧ W (i + 1) m' ys' σ' H') ∧ ∀ x H', J.yld i H x H' → g x σ H' fun σ2 H2 => tb { D with nx := N, ct := N, bk := D.nx } ys σ2 H2)
theorem fp_pins {pins pins' : List (Addr × Obj)} {H H' : Hp} {b : Addr} (f : FpOk X pins H b) (n : H' b = none) (e : pins'.map (·.1) = pins.map (·.1)) : FpOk X pins' H' b := by
  obtain ⟨_, f1, f2, f3, f4, f5⟩ := f
  refine ⟨n, f1, f2, f3, f4, fun p hp => ?_⟩
  rcases List.mem_append.mp hp with h | h
  · exact f5 p (List.mem_append_left _ h)
  · have : p.1 ∈ pins.map (·.1) := e ▸ List.mem_map_of_mem h
    obtain ⟨q, hq, eq⟩ := List.mem_map.mp this
    exact eq ▸ f5 q (List.mem_append_right _ hq)
theorem gs_for (hp : PassesOwn (model X.prog X.w) X.A X.env X.xe) (hc : X.calm = true) (hi : PI X tg iter wi) (hg : PG X tg g) (hb : GSs X body tb) (hs : ∀ x, foldedSetIterable iter X.env x = pure x := by intro _; rfl) : GS X (.For tg iter body [] pos) (tGFor wi g tb) := by
  refine ⟨fun A S ip R n ys s₀ c fs K J gd lv s σ H D gc hn k hI ht => ?_⟩
  obtain ⟨acc, cc, r, I⟩ := hI
  refine seg_forIn hs ?_
  rw [gc.over]
  refine wpAny_mono (hi.run _ s σ H _ I ht) (fun v s1 h1 => wpAny_mono h1 (fun itv s2 h2 p => ?_) fun x s' hx => k.exc n s₀ x s' hx) fun x s' hx => k.exc n s₀ x s' hx
  obtain ⟨it, fp, tn, Jt, H2, rfl, I2, T, st2, f2, W, ⟨m0, w0⟩, turn⟩ := h2
  have gl := fun (kk : Result → Sem PySem.Fin) => gc_loop (k := kk) (c' := .forLoop tg (.ref it) body [] X.env) (l := lv []) (kp := []) (p := p) gc rfl rfl
  have loop : ∀ (m i n : Nat) (ys : List V) (s₀ s : Shared) (σ : L2.St) (H : Hp) (acc : Array Value) (cc : Nat), n + ys.length = sizeLine → W i m ys σ H → Vals ys acc.toList → Inv X ((S, lstObj acc cc) :: ip) σ H s → tn i s.heap → (∀ b ∈ fp, FpOk X ((S, lstObj acc cc) :: ip) H b) →
      Seg (model X.prog X.w) A R (GY X S) n s₀ (.forLoop tg (.ref it) body [] X.env) ((model X.prog X.w).den (.forLoop tg (.ref it) body [] X.env))
        (.ret (fun r => ((match r with | .ok f => (.pure f : Sem Flow) | .error e => .raise e).onRaise (cameBack X.env)).wrap K J gd lv) none (gd false) (lv []) c p [] :: fs) s := by
    intro m
    induction m using Nat.strongRecOn with
    | ind m ih =>
      intro i n ys s₀ s σ H acc cc hn w r I st ff
      have ee : ∀ (n : Nat) (s₀ : Shared) (x : Value) (s' : Shared), X.xe x s' → SegX X.prog X.w A R (GY X S) n s₀ (.forLoop tg (.ref it) body [] X.env)
          (.ret (fun r => ((match r with | .ok f => (.pure f : Sem Flow) | .error e => .raise e).onRaise (cameBack X.env)).wrap K J gd lv) none (gd false) (lv []) c p [] :: fs) X.env x s' := fun n s₀ x s' hx => by
        unfold SegX
        rw [Sem.bind_eq_wrap]
        refine seg_wrap ?_
        rw [(gl _).over]
        refine wpAny_bind (wpAny_mono (hp x s' hx) (fun _ s'' hcb => wpAny_theTreesLotGoes ?_) fun y s'' hcb => ?_)
        · exact seg_leaf (.error x) (seg_cameBack gc k hcb)
        · exact seg_leaf (.error y) (seg_cameBack gc k hcb)
      refine seg_forTurn ?_
      rw [(gl _).over]
      rcases turn i m ys σ H w with ⟨stop, qn⟩ | ⟨go, N, hN, step⟩
      · refine wpAny_mono (T.done X rfl rfl rfl hc i _ s σ H X.xe I ff st stop) (fun o s4 z => ?_) fun x s' hx => ee n s₀ x s' hx
        obtain ⟨rfl, I4⟩ := z
        refine seg_again rfl ?_
        exact seg_leaf (.ok .next) (k.ok n ys s₀ s4 .next hn ⟨σ, H, ⟨acc, cc, r, I4⟩, qn⟩)
      · refine wpAny_mono (T.item X rfl rfl rfl hc i _ s σ H X.xe I ff st go) (fun o s4 z => ?_) fun x s' hx => ee n s₀ x s' hx
        obtain ⟨u, rfl, h4⟩ := z
        refine wpAny_mono h4 (fun _ s5 z => ?_) fun x s' hx => ee n s₀ x s' hx
        obtain ⟨x, H5, I5, r5, y5, st5, fr5⟩ := z
        have ff5 : ∀ b ∈ fp, FpOk X ((S, lstObj acc cc) :: ip) H5 b := fun b hb => fp_pins (ff b hb) (fr5 b hb) rfl
        have I6 := I5.pinned ff5 (T.obj _ _ st5)
        refine wpAny_mono (hg.run _ s5 σ H5 x u _ I6 r5 (step x H5 y5)) (fun _ s6 z => ?_) fun x s' hx => ee n s₀ x s' hx
        obtain ⟨σ6, H6, I6, q6⟩ := z
        have off : ∀ q ∈ ip ++ pinsAt fp s5.heap, q.1 ≠ S := fun q hq => (List.mem_append.mp hq).elim (fun z => gc.ip q z) fun z => by
          obtain ⟨hb, _⟩ := of_pinsAt z
          obtain ⟨_, _, _, _, _, f5⟩ := ff q.1 hb
          exact fun e => f5 (S, lstObj acc cc) (List.mem_append_right _ List.mem_cons_self) e.symm
        have gl6 : ∀ (kk : Result → Sem PySem.Fin), GC X S (ip ++ pinsAt fp s5.heap) A (.forLoop tg (.ref it) body [] X.env) (.ret kk none (gd false) (lv []) c p [] :: fs) id := fun kk => { gl kk with ip := off }
        have back : ∀ {n' : Nat} {ys' : List V} {s₀' s3 : Shared} {σ3 : L2.St} {H3 : Hp}, n' + ys'.length = sizeLine → GI X S (ip ++ pinsAt fp s5.heap) ys' σ3 H3 s3 → N ys' σ3 H3 → Seg (model X.prog X.w) A R (GY X S) n' s₀' (.forLoop tg (.ref it) body [] X.env) ((model X.prog X.w).den (.forLoop tg (.ref it) body [] X.env))
            (.ret (fun r => ((match r with | .ok f => (.pure f : Sem Flow) | .error e => .raise e).onRaise (cameBack X.env)).wrap K J gd lv) none (gd false) (lv []) c p [] :: fs) s3 := fun {n' ys' s₀' s3 σ3 H3} hn' hs n3 => by
          obtain ⟨acc3, cc3, r3, I3⟩ := hs
          obtain ⟨m', hm, w3⟩ := hN ys' σ3 H3 n3
          have I3' : Inv X (((S, lstObj acc3 cc3) :: ip) ++ pinsAt fp s5.heap) σ3 H3 s3 := I3
          refine ih m' hm (i + 1) n' ys' s₀' s3 σ3 H3 acc3 cc3 hn' w3 r3 I3'.unpinned (T.keep _ _ _ st5 fun b hb o e => (I3'.pin (b, o) (List.mem_append_right _ (List.mem_append_right _ (mem_pinsAt hb e)))).1) fun b hb => ?_
          obtain ⟨o, e, _⟩ := T.obj _ _ st5 b hb
          exact fp_pins (ff b hb) (I3'.pin (b, o) (List.mem_append_right _ (List.mem_append_right _ (mem_pinsAt hb e)))).2.1 rfl
        have low : ∀ {ys' : List V} {σ3 : L2.St} {H3 : Hp} {s3 : Shared}, GI X S (ip ++ pinsAt fp s5.heap) ys' σ3 H3 s3 → GI X S ip ys' σ3 H3 s3 := fun {ys' σ3 H3 s3} hs => by
          obtain ⟨acc3, cc3, r3, I3⟩ := hs
          have I3' : Inv X (((S, lstObj acc3 cc3) :: ip) ++ pinsAt fp s5.heap) σ3 H3 s3 := I3
          exact ⟨acc3, cc3, r3, I3'.unpinned⟩
        refine hb.run A S (ip ++ pinsAt fp s5.heap) R n ys s₀ _ _ _ _ id id s6 σ6 H6 { D with nx := N, ct := N, bk := D.nx } (gl6 _) hn ⟨fun n' ys' s₀' s3 f hn' hs => ?_, fun n' s₀' x s3 hx => ee n' s₀' x s3 hx⟩ ⟨acc, cc, r, I6⟩ q6
        cases f with
        | next => obtain ⟨σ3, H3, I3, n3⟩ := hs; exact seg_again rfl (back hn' I3 n3)
        | cont => obtain ⟨σ3, H3, I3, n3⟩ := hs; exact seg_again rfl (back hn' I3 n3)
        | brk => obtain ⟨σ3, H3, I3, q3⟩ := hs; exact seg_leaf (.ok .next) (k.ok n' ys' s₀' s3 .next hn' ⟨σ3, H3, low I3, q3⟩)
        | ret v => obtain ⟨z, σ3, H3, I3, r3, q3⟩ := hs; exact seg_leaf (.ok (.ret v)) (k.ok n' ys' s₀' s3 (.ret v) hn' ⟨z, σ3, H3, low I3, r3, q3⟩)
  exact loop m0 0 n ys s₀ s2 σ H2 acc cc hn w0 r I2 st2 f2
end
end KG
namespace KG
open PySem PySem.Spec PySem.Calls PyProof.Rows L2
/-- over whole numbers from lo on -/
theorem gfor_range {lo : Int} {n : Nat} {g : TG} {tb : TGn} {D : GEnds} {ys : List V} {σ : L2.St} {H : Hp} (Pv : Nat → List V → L2.St → Hp → Prop) (h0 : Pv 0 ys σ H)
    (each : ∀ i ys σ H, i < n → Pv i ys σ H → g (.int (lo + i)) σ H fun σ2 H2 => tb { D with nx := Pv (i + 1), ct := Pv (i + 1), bk := D.nx } ys σ2 H2) (end_ : ∀ ys σ H, Pv n ys σ H → D.nx ys σ H) :
    ∃ W : Nat → Nat → List V → L2.St → Hp → Prop, (∃ m, W 0 m ys σ H) ∧ ∀ i m ys σ H, W i m ys σ H →
      ((Itr lo n).stop i H ∧ D.nx ys σ H) ∨ ((Itr lo n).go i H ∧ ∃ N : List V → L2.St → Hp → Prop, (∀ ys' σ' H', N ys' σ' H' → ∃ m', m' < m ∧ W (i + 1) m' ys' σ' H') ∧ ∀ x H', (Itr lo n).yld i H x H' → g x σ H' fun σ2 H2 => tb { D with nx := N, ct := N, bk := D.nx } ys σ2 H2) := by
  refine ⟨fun i m ys σ H => (m + i = n) ∧ Pv i ys σ H, ⟨n, rfl, h0⟩, fun i m ys σ H w => ?_⟩
  obtain ⟨e, p⟩ := w
  cases m with
  | zero =>
    have e' : i = n := by omega
    subst e'
    exact .inl ⟨by simp [Itr], end_ _ _ _ p⟩
  | succ m =>
    have lt : i < n := by omega
    refine .inr ⟨lt, Pv (i + 1), fun ys' σ' H' p' => ⟨m, Nat.lt_succ_self m, by omega, p'⟩, fun x H' y => ?_⟩
    obtain ⟨e1, e2⟩ := y
    subst e1
    subst e2
    exact each i ys σ _ lt p
end KG

set_option Elab.async false
set_option linter.all false
set_option maxRecDepth 100000
set_option maxHeartbeats 4000000
namespace Law
open PySem PySem.Spec PySem.Calls PyProof.Rows L2 KG LamX
local macro_rules | `(tactic| walk_at "1") => `(tactic| first
  | (with_reducible refine w_var rfl ?_) | (with_reducible refine w_c ?_) | (with_reducible refine w_seq ?_) | (with_reducible refine w_asg ?_) | (with_reducible refine w_gname ?_) | (with_reducible refine w_op ?_) | (with_reducible refine w_un ?_)
  | (with_reducible refine w_add ?_) | (with_reducible refine w_sub ?_) | ((with_reducible refine' w_mod ?mo ?_); (case mo => first | assumption | decide | omega)) | (with_reducible refine w_and ?_) | (with_reducible refine w_or ?_) | (with_reducible refine w_xor ?_)
  | (with_reducible refine w_gt ?_) | (with_reducible refine w_lt ?_) | (with_reducible refine w_ge ?_) | (with_reducible refine w_le ?_) | ((with_reducible refine' w_eq ?sc ?_); (case sc => rfl)) | ((with_reducible refine' w_ne ?sc ?_); (case sc => rfl))
  | (with_reducible refine w_ret ?_) | (with_reducible refine w_next ?_) | (with_reducible refine w_ifs ?_) | (with_reducible refine w_ifx ?_) | (with_reducible refine w_test ?_) | (with_reducible refine w_tB ?_) | (with_reducible refine w_bl ?_)
  | ((with_reducible refine' w_ixL ?ixh ?ixa ?_); (case ixh => first | exact SqL.of (by assumption)); (case ixa => first | rfl | skip)) | ((with_reducible refine' w_ixT ?ixh ?ixa ?_); (case ixh => first | exact SqT.of (by assumption)); (case ixa => first | rfl | skip))
  | ((with_reducible refine' w_fld ?_)) | ((with_reducible refine' fld ?fh ?fc ?fn ?fl ?_); (case fh => assumption); (case fc => assumption); (case fn => assumption); (case fl => rfl)) | (with_reducible refine w_sfld ?_)
  | (with_reducible refine Or.inl ⟨_, rfl, ?_⟩) | (with_reducible refine w_gsub ?_) | (with_reducible refine w_andV ?_) | (with_reducible refine w_orV ?_)
  | (with_reducible refine w_nil ?_) | (with_reducible refine w_cons ?_) | (with_reducible refine w_tup ?_) | (with_reducible refine w_lst ?_) | (with_reducible refine w_and2 ?_) | (with_reducible refine w_or2 ?_) | (with_reducible refine w_not ?_) | (with_reducible refine w_cb ?_) | (with_reducible refine w_call ?_) | (with_reducible refine w_par ?_) | (with_reducible refine w_pnil ?_) | (with_reducible refine w_pcons ?_) | (with_reducible refine w_dput ?_) | (with_reducible refine w_dget ?_) | (with_reducible refine w_for ?_) | (with_reducible refine w_itup ?_) | (with_reducible refine w_ilist ?_) | (with_reducible refine w_irng ?_) | (with_reducible refine w_meth ?_) | (with_reducible refine w_make ?_) | (with_reducible refine w_makeK ?_) | (with_reducible refine w_methK ?_) | ((with_reducible refine' mth ?mh ?ml ?_); (case mh => assumption); (case ml => rfl)) | (with_reducible refine w_drop ?_))
local macro_rules | `(tactic| walk_at "go") => `(tactic| ((repeat (walk_at "1")); try dsimp only))
local macro_rules | `(tactic| walk_at "1") => `(tactic| first
  | (with_reducible refine w_notV ?_) | (with_reducible refine w_callK ?_) | (with_reducible refine w_lc ?_) | (with_reducible refine w_chain ?_) | (with_reducible refine w_neg ?_) | ((with_reducible refine' w_shr ?mo ?_); (case mo => first | assumption | omega)))
def top (i : Nat) : Stmt := PySem.Challenge.pw_keptbits_k16_whole_runs_of_bits_and_effe.main.body.getD i (.Pass ⟨0, 0, 0, 0⟩)
abbrev s_check_letters : Stmt := top 9
theorem sc_check_letters : FnScope ["value", "index", "letter"] ["value"] (defScope s_check_letters) := ⟨rfl, rfl, rfl, by decide +kernel, rfl, by decide +kernel, by decide +kernel⟩
theorem bd_check_letters : BindOk "check_letters" "check_letters" s_check_letters ["value"] := fun _ _ _ _ _ _ us hl => match us, hl with | [_], _ => rfl
abbrev s_check_same_kind : Stmt := top 10
theorem sc_check_same_kind : FnScope ["a", "b"] ["a", "b"] (defScope s_check_same_kind) := ⟨rfl, rfl, rfl, by decide +kernel, rfl, by decide +kernel, by decide +kernel⟩
theorem bd_check_same_kind : BindOk "check_same_kind" "check_same_kind" s_check_same_kind ["a", "b"] := fun _ _ _ _ _ _ us hl => match us, hl with | [_, _], _ => rfl
abbrev s_ends_without_letters : Stmt := top 11
theorem sc_ends_without_letters : FnScope ["kind", "quiet", "state"] ["kind", "quiet"] (defScope s_ends_without_letters) := ⟨rfl, rfl, rfl, by decide +kernel, rfl, by decide +kernel, by decide +kernel⟩
theorem bd_ends_without_letters : BindOk "ends_without_letters" "ends_without_letters" s_ends_without_letters ["kind", "quiet"] := fun _ _ _ _ _ _ us hl => match us, hl with | [_, _], _ => rfl
abbrev s_ends_of_letter : Stmt := top 12
theorem sc_ends_of_letter : FnScope ["kind", "letter", "state"] ["kind", "letter"] (defScope s_ends_of_letter) := ⟨rfl, rfl, rfl, by decide +kernel, rfl, by decide +kernel, by decide +kernel⟩
theorem bd_ends_of_letter : BindOk "ends_of_letter" "ends_of_letter" s_ends_of_letter ["kind", "letter"] := fun _ _ _ _ _ _ us hl => match us, hl with | [_, _], _ => rfl
abbrev s_joined : Stmt := top 13
theorem sc_joined : FnScope ["first", "second", "middle", "end", "ends"] ["first", "second"] (defScope s_joined) := ⟨rfl, rfl, rfl, by decide +kernel, rfl, by decide +kernel, by decide +kernel⟩
theorem bd_joined : BindOk "joined" "joined" s_joined ["first", "second"] := fun _ _ _ _ _ _ us hl => match us, hl with | [_, _], _ => rfl
abbrev s_either : Stmt := top 14
theorem sc_either : FnScope ["first", "second", "one", "other"] ["first", "second"] (defScope s_either) := ⟨rfl, rfl, rfl, by decide +kernel, rfl, by decide +kernel, by decide +kernel⟩
theorem bd_either : BindOk "either" "either" s_either ["first", "second"] := fun _ _ _ _ _ _ us hl => match us, hl with | [_, _], _ => rfl
abbrev s_Effect___init__ : Stmt := inClass (top 15) 0
theorem sc_Effect___init__ : FnScope ["self", "kind", "ends"] ["self", "kind", "ends"] (defScope s_Effect___init__) := ⟨rfl, rfl, rfl, by decide +kernel, rfl, by decide +kernel, by decide +kernel⟩
theorem bd_Effect___init__ : BindOk "__init__" "Effect.__init__" s_Effect___init__ ["self", "kind", "ends"] := fun _ _ _ _ _ _ us hl => match us, hl with | [_, _, _], _ => rfl
abbrev s_Effect_of : Stmt := inClass (top 15) 1
theorem sc_Effect_of : FnScope ["cls", "kind", "letters", "quiet", "between", "ends", "letter"] ["cls", "kind", "letters", "quiet"] (defScope s_Effect_of) := ⟨rfl, rfl, rfl, by decide +kernel, rfl, by decide +kernel, by decide +kernel⟩
abbrev s_Effect___call__ : Stmt := inClass (top 15) 2
theorem sc_Effect___call__ : FnScope ["self", "state"] ["self", "state"] (defScope s_Effect___call__) := ⟨rfl, rfl, rfl, by decide +kernel, rfl, by decide +kernel, by decide +kernel⟩
theorem bd_Effect___call__ : BindOk "__call__" "Effect.__call__" s_Effect___call__ ["self", "state"] := fun _ _ _ _ _ _ us hl => match us, hl with | [_, _], _ => rfl
abbrev s_Effect___mul__ : Stmt := inClass (top 15) 4
theorem sc_Effect___mul__ : FnScope ["self", "other"] ["self", "other"] (defScope s_Effect___mul__) := ⟨rfl, rfl, rfl, by decide +kernel, rfl, by decide +kernel, by decide +kernel⟩
theorem bd_Effect___mul__ : BindOk "__mul__" "Effect.__mul__" s_Effect___mul__ ["self", "other"] := fun _ _ _ _ _ _ us hl => match us, hl with | [_, _], _ => rfl
abbrev s_Effect___eq__ : Stmt := inClass (top 15) 7
theorem sc_Effect___eq__ : FnScope ["self", "other"] ["self", "other"] (defScope s_Effect___eq__) := ⟨rfl, rfl, rfl, by decide +kernel, rfl, by decide +kernel, by decide +kernel⟩
theorem bd_Effect___eq__ : BindOk "__eq__" "Effect.__eq__" s_Effect___eq__ ["self", "other"] := fun _ _ _ _ _ _ us hl => match us, hl with | [_, _], _ => rfl
abbrev s_Kind___init__ : Stmt := inClass (top 20) 3
theorem sc_Kind___init__ : FnScope ["self", "reading", "writing", "device", "value", "words"] ["self", "reading", "writing", "device"] (defScope s_Kind___init__) := ⟨rfl, rfl, rfl, by decide +kernel, rfl, by decide +kernel, by decide +kernel⟩
theorem bd_Kind___init__ : BindOk "__init__" "Kind.__init__" s_Kind___init__ ["self", "reading", "writing", "device"] := fun _ _ _ _ _ _ us hl => match us, hl with | [_, _, _, _], _ => rfl
abbrev s_Kind_after_read : Stmt := inClass (top 20) 4
theorem sc_Kind_after_read : FnScope ["self", "state"] ["self", "state"] (defScope s_Kind_after_read) := ⟨rfl, rfl, rfl, by decide +kernel, rfl, by decide +kernel, by decide +kernel⟩
theorem bd_Kind_after_read : BindOk "after_read" "Kind.after_read" s_Kind_after_read ["self", "state"] := fun _ _ _ _ _ _ us hl => match us, hl with | [_, _], _ => rfl
abbrev s_Kind_after_write : Stmt := inClass (top 20) 5
theorem sc_Kind_after_write : FnScope ["self", "state", "bit"] ["self", "state", "bit"] (defScope s_Kind_after_write) := ⟨rfl, rfl, rfl, by decide +kernel, rfl, by decide +kernel, by decide +kernel⟩
theorem bd_Kind_after_write : BindOk "after_write" "Kind.after_write" s_Kind_after_write ["self", "state", "bit"] := fun _ _ _ _ _ _ us hl => match us, hl with | [_, _, _], _ => rfl
abbrev s_Kind_unguarded : Stmt := inClass (top 20) 6
theorem sc_Kind_unguarded : FnScope ["self", "state", "bit", "ends"] ["self", "state", "bit"] (defScope s_Kind_unguarded) := ⟨rfl, rfl, rfl, by decide +kernel, rfl, by decide +kernel, by decide +kernel⟩
theorem bd_Kind_unguarded : BindOk "unguarded" "Kind.unguarded" s_Kind_unguarded ["self", "state", "bit"] := fun _ _ _ _ _ _ us hl => match us, hl with | [_, _, _], _ => rfl
abbrev s_Kind_deeds : Stmt := inClass (top 20) 7
theorem sc_Kind_deeds : FnScope ["self", "state"] ["self", "state"] (defScope s_Kind_deeds) := ⟨rfl, rfl, rfl, by decide +kernel, rfl, by decide +kernel, by decide +kernel⟩
theorem bd_Kind_deeds : BindOk "deeds" "Kind.deeds" s_Kind_deeds ["self", "state"] := fun _ _ _ _ _ _ us hl => match us, hl with | [_, _], _ => rfl
abbrev s_Kind___eq__ : Stmt := inClass (top 20) 8
theorem sc_Kind___eq__ : FnScope ["self", "other"] ["self", "other"] (defScope s_Kind___eq__) := ⟨rfl, rfl, rfl, by decide +kernel, rfl, by decide +kernel, by decide +kernel⟩
theorem bd_Kind___eq__ : BindOk "__eq__" "Kind.__eq__" s_Kind___eq__ ["self", "other"] := fun _ _ _ _ _ _ us hl => match us, hl with | [_, _], _ => rfl
abbrev s_is_int : Stmt := top 22
theorem sc_is_int : FnScope ["value"] ["value"] (defScope s_is_int) := ⟨rfl, rfl, rfl, by decide +kernel, rfl, by decide +kernel, by decide +kernel⟩
theorem bd_is_int : BindOk "is_int" "is_int" s_is_int ["value"] := fun _ _ _ _ _ _ us hl => match us, hl with | [_], _ => rfl
abbrev s_full_word : Stmt := top 23
theorem sc_full_word : FnScope ["size"] ["size"] (defScope s_full_word) := ⟨rfl, rfl, rfl, by decide +kernel, rfl, by decide +kernel, by decide +kernel⟩
theorem bd_full_word : BindOk "full_word" "full_word" s_full_word ["size"] := fun _ _ _ _ _ _ us hl => match us, hl with | [_], _ => rfl
abbrev s_is_word : Stmt := top 24
theorem sc_is_word : FnScope ["value", "size"] ["value", "size"] (defScope s_is_word) := ⟨rfl, rfl, rfl, by decide +kernel, rfl, by decide +kernel, by decide +kernel⟩
theorem bd_is_word : BindOk "is_word" "is_word" s_is_word ["value", "size"] := fun _ _ _ _ _ _ us hl => match us, hl with | [_, _], _ => rfl
abbrev s_check_word : Stmt := top 25
theorem sc_check_word : FnScope ["value", "size"] ["value", "size"] (defScope s_check_word) := ⟨rfl, rfl, rfl, by decide +kernel, rfl, by decide +kernel, by decide +kernel⟩
theorem bd_check_word : BindOk "check_word" "check_word" s_check_word ["value", "size"] := fun _ _ _ _ _ _ us hl => match us, hl with | [_, _], _ => rfl
abbrev s_Bit___init__ : Stmt := inClass (top 27) 1
theorem sc_Bit___init__ : FnScope ["self", "value"] ["self", "value"] (defScope s_Bit___init__) := ⟨rfl, rfl, rfl, by decide +kernel, rfl, by decide +kernel, by decide +kernel⟩
abbrev s_Bit_now : Stmt := inClass (top 27) 2
theorem sc_Bit_now : FnScope ["self"] ["self"] (defScope s_Bit_now) := ⟨rfl, rfl, rfl, by decide +kernel, rfl, by decide +kernel, by decide +kernel⟩
theorem bd_Bit_now : BindOk "now" "Bit.now" s_Bit_now ["self"] := fun _ _ _ _ _ _ us hl => match us, hl with | [_], _ => rfl
abbrev s_Bit_state : Stmt := inClass (top 27) 3
theorem sc_Bit_state : FnScope ["self"] ["self"] (defScope s_Bit_state) := ⟨rfl, rfl, rfl, by decide +kernel, rfl, by decide +kernel, by decide +kernel⟩
theorem bd_Bit_state : BindOk "state" "Bit.state" s_Bit_state ["self"] := fun _ _ _ _ _ _ us hl => match us, hl with | [_], _ => rfl
abbrev s_KindBit___init__ : Stmt := inClass (top 28) 0
theorem sc_KindBit___init__ : ScS ["self", "kind", "value"] ["self", "kind", "value"] (defScope s_KindBit___init__) := ⟨rfl, rfl, rfl, rfl, by decide +kernel, by decide +kernel, by decide +kernel, by decide +kernel, rfl, rfl⟩
abbrev s_KindBit_read : Stmt := inClass (top 28) 1
theorem sc_KindBit_read : FnScope ["self", "value"] ["self"] (defScope s_KindBit_read) := ⟨rfl, rfl, rfl, by decide +kernel, rfl, by decide +kernel, by decide +kernel⟩
theorem bd_KindBit_read : BindOk "read" "KindBit.read" s_KindBit_read ["self"] := fun _ _ _ _ _ _ us hl => match us, hl with | [_], _ => rfl
abbrev s_KindBit_write : Stmt := inClass (top 28) 2
theorem sc_KindBit_write : FnScope ["self", "bit"] ["self", "bit"] (defScope s_KindBit_write) := ⟨rfl, rfl, rfl, by decide +kernel, rfl, by decide +kernel, by decide +kernel⟩
theorem bd_KindBit_write : BindOk "write" "KindBit.write" s_KindBit_write ["self", "bit"] := fun _ _ _ _ _ _ us hl => match us, hl with | [_, _], _ => rfl
abbrev s_KindBit_deed : Stmt := inClass (top 28) 3
theorem sc_KindBit_deed : FnScope ["self", "ends"] ["self"] (defScope s_KindBit_deed) := ⟨rfl, rfl, rfl, by decide +kernel, rfl, by decide +kernel, by decide +kernel⟩
theorem bd_KindBit_deed : BindOk "deed" "KindBit.deed" s_KindBit_deed ["self"] := fun _ _ _ _ _ _ us hl => match us, hl with | [_], _ => rfl
abbrev s__law_pen : Stmt := top 30
theorem sc__law_pen : FnScope ["_law_script"] ["_law_script"] (defScope s__law_pen) := ⟨rfl, rfl, rfl, by decide +kernel, rfl, by decide +kernel, by decide +kernel⟩
theorem bd__law_pen : BindOk "_law_pen" "_law_pen" s__law_pen ["_law_script"] := fun _ _ _ _ _ _ us hl => match us, hl with | [_], _ => rfl
abbrev s__law_draw : Stmt := top 31
theorem sc__law_draw : FnScope ["_law_pen_here", "_law_many", "_law_digit", "_law_at", "_law_cell", "_law_great", "_law_mixed"] ["_law_pen_here", "_law_many"] (defScope s__law_draw) := ⟨rfl, rfl, rfl, by decide +kernel, rfl, by decide +kernel, by decide +kernel⟩
theorem bd__law_draw : BindOk "_law_draw" "_law_draw" s__law_draw ["_law_pen_here", "_law_many"] := fun _ _ _ _ _ _ us hl => match us, hl with | [_, _], _ => rfl
abbrev s__law_write : Stmt := top 32
theorem sc__law_write : FnScope ["_law_writing", "_law_state", "_law_bit", "_law_value", "_law_second", "_law_ends_here"] ["_law_writing", "_law_state", "_law_bit"] (defScope s__law_write) := ⟨rfl, rfl, rfl, by decide +kernel, rfl, by decide +kernel, by decide +kernel⟩
theorem bd__law_write : BindOk "_law_write" "_law_write" s__law_write ["_law_writing", "_law_state", "_law_bit"] := fun _ _ _ _ _ _ us hl => match us, hl with | [_, _, _], _ => rfl
abbrev s__law_read : Stmt := top 33
theorem sc__law_read : FnScope ["_law_reading", "_law_state"] ["_law_reading", "_law_state"] (defScope s__law_read) := ⟨rfl, rfl, rfl, by decide +kernel, rfl, by decide +kernel, by decide +kernel⟩
theorem bd__law_read : BindOk "_law_read" "_law_read" s__law_read ["_law_reading", "_law_state"] := fun _ _ _ _ _ _ us hl => match us, hl with | [_, _], _ => rfl
abbrev s__law_deeds : Stmt := top 34
theorem sc__law_deeds : FnScope ["_law_device", "_law_state"] ["_law_device", "_law_state"] (defScope s__law_deeds) := ⟨rfl, rfl, rfl, by decide +kernel, rfl, by decide +kernel, by decide +kernel⟩
theorem bd__law_deeds : BindOk "_law_deeds" "_law_deeds" s__law_deeds ["_law_device", "_law_state"] := fun _ _ _ _ _ _ us hl => match us, hl with | [_, _], _ => rfl
abbrev s__law_words : Stmt := top 35
theorem sc__law_words : FnScope ["_law_pen_here", "_law_writings", "_law_reading"] ["_law_pen_here"] (defScope s__law_words) := ⟨rfl, rfl, rfl, by decide +kernel, rfl, by decide +kernel, by decide +kernel⟩
theorem bd__law_words : BindOk "_law_words" "_law_words" s__law_words ["_law_pen_here"] := fun _ _ _ _ _ _ us hl => match us, hl with | [_], _ => rfl
abbrev s__law_states : Stmt := top 38
theorem sc__law_states : FnScope ["_law_words_here"] ["_law_words_here"] (defScope s__law_states) := ⟨rfl, rfl, rfl, by decide +kernel, rfl, by decide +kernel, by decide +kernel⟩
theorem bd__law_states : BindOk "_law_states" "_law_states" s__law_states ["_law_words_here"] := fun _ _ _ _ _ _ us hl => match us, hl with | [_], _ => rfl
abbrev s__law_letters : Stmt := top 39
theorem sc__law_letters : FnScope ["_law_pen_here", "_law_most", "_law_size", "_law_signs", "_law_turn"] ["_law_pen_here", "_law_most"] (defScope s__law_letters) := ⟨rfl, rfl, rfl, by decide +kernel, rfl, by decide +kernel, by decide +kernel⟩
theorem bd__law_letters : BindOk "_law_letters" "_law_letters" s__law_letters ["_law_pen_here", "_law_most"] := fun _ _ _ _ _ _ us hl => match us, hl with | [_, _], _ => rfl
abbrev s__law_set_up : Stmt := top 42
theorem sc__law_set_up : FnScope ["_law_kind", "_law_state", "_law_bit"] ["_law_kind", "_law_state"] (defScope s__law_set_up) := ⟨rfl, rfl, rfl, by decide +kernel, rfl, by decide +kernel, by decide +kernel⟩
theorem bd__law_set_up : BindOk "_law_set_up" "_law_set_up" s__law_set_up ["_law_kind", "_law_state"] := fun _ _ _ _ _ _ us hl => match us, hl with | [_, _], _ => rfl
abbrev s__law_led : Stmt := top 43
theorem sc__law_led : FnScope ["_law_bit", "_law_letters_here", "_law_deeds_here", "_law_at", "_law_turn"] ["_law_bit", "_law_letters_here", "_law_deeds_here"] (defScope s__law_led) := ⟨rfl, rfl, rfl, by decide +kernel, rfl, by decide +kernel, by decide +kernel⟩
theorem bd__law_led : BindOk "_law_led" "_law_led" s__law_led ["_law_bit", "_law_letters_here", "_law_deeds_here"] := fun _ _ _ _ _ _ us hl => match us, hl with | [_, _, _], _ => rfl
abbrev s__law_way : Stmt := top 44
theorem sc__law_way : FnScope ["_law_words_here", "_law_state", "_law_end", "_law_letters_here", "_law_found", "_law_order", "_law_at", "_law_layer", "_law_key", "_law_ends_here", "_law_one", "_law_count", "_law_later"] ["_law_words_here", "_law_state", "_law_end", "_law_letters_here"] (defScope s__law_way) := ⟨rfl, rfl, rfl, by decide +kernel, rfl, by decide +kernel, by decide +kernel⟩
theorem bd__law_way : BindOk "_law_way" "_law_way" s__law_way ["_law_words_here", "_law_state", "_law_end", "_law_letters_here"] := fun _ _ _ _ _ _ us hl => match us, hl with | [_, _, _, _], _ => rfl
abbrev s__law_letter : Stmt := top 45
theorem sc__law_letter : FnScope ["_law_words_here", "_law_state", "_law_letter_here"] ["_law_words_here", "_law_state", "_law_letter_here"] (defScope s__law_letter) := ⟨rfl, rfl, rfl, by decide +kernel, rfl, by decide +kernel, by decide +kernel⟩
theorem bd__law_letter : BindOk "_law_letter" "_law_letter" s__law_letter ["_law_words_here", "_law_state", "_law_letter_here"] := fun _ _ _ _ _ _ us hl => match us, hl with | [_, _, _], _ => rfl
abbrev s__law_kind_right : Stmt := top 46
theorem sc__law_kind_right : FnScope ["_law_pen_here", "_law_words_here", "_law_kind", "_law_letters_here", "_law_effect", "_law_idle", "_law_state", "_law_bit", "_law_deeds_here", "_law_turn", "_law_end", "_law_pick", "_law_more", "_law_both"] ["_law_pen_here"] (defScope s__law_kind_right) := ⟨rfl, rfl, rfl, by decide +kernel, rfl, by decide +kernel, by decide +kernel⟩
theorem bd__law_kind_right : BindOk "_law_kind_right" "_law_kind_right" s__law_kind_right ["_law_pen_here"] := fun _ _ _ _ _ _ us hl => match us, hl with | [_], _ => rfl
abbrev s_law : Stmt := top 47
theorem sc_law : FnScope ["_law_script", "_law_pen_here"] ["_law_script"] (defScope s_law) := ⟨rfl, rfl, rfl, by decide +kernel, rfl, by decide +kernel, by decide +kernel⟩
theorem bd_law : BindOk "law" "law" s_law ["_law_script"] := fun _ _ _ _ _ _ us hl => match us, hl with | [_], _ => rfl
/-! ### kinds -/
def RD : List Str := ["keep", "take"]
def WR : List Str := ["store", "clear1", "clear0", "set1", "flip1", "once", "none"]
def DV : List Str := ["still", "raise", "end", "drift"]
def kf (r w d : Str) (st : Addr) : List (Str × V) := [("reading", .str r), ("writing", .str w), ("device", .str d), ("states", .ref st)]
def stL (w : Str) : List V := if w = "once" then [.int 0, .int 1, .int 2, .int 3] else [.int 0, .int 1]
def KindAt (C : Addr) (H : Hp) (k : Addr) (r w d : Str) : Prop := ∃ dx st, H k = some (.ins C dx (kf r w d st)) ∧ H st = some (.tup (stL w))
/-- the table of writings: for the value v and the bit b -/
def tabV (w : Str) (v b : Int) : Int :=
  if w = "store" then b else if w = "clear1" then (if b = 1 then 0 else v) else if w = "clear0" then (if b = 1 then v else 0) else if w = "set1" then (if b = 1 then 1 else v)
  else if w = "flip1" then (if b = 1 then 1 - v else v) else if w = "once" then 2 + b else v
def invL (d : Str) : List V := if d = "raise" then [.int 0] else if d = "end" then [.int 1] else if d = "drift" then [.int 0, .int 1] else []
def rdF (r : Str) (s : Int) : Int := if r = "take" then Builtin.bitAnd s 2 else s
def awF (w : Str) (s b : Int) : Int := if Builtin.bitAnd s 2 = 0 then tabV w (Builtin.bitAnd s 1) b else s
def dvF (d : Str) (s : Int) : List V := if inV (.int (Builtin.bitAnd s 1)) (invL d) = true then [.int (Builtin.bitXor s 1)] else []
def St4 (s : Int) : Prop := s = 0 ∨ s = 1 ∨ s = 2 ∨ s = 3
structure KT (K : PySem.W.Frag) (w : World) (mg : Str → Option Value) (C aW aI : Addr) (mc : Value) : Prop where
  g_Kind : mg "Kind" = some (.ref C)
  g_SPENT : ∃ t, mg "SPENT" = some (.int 2 t)
  g_WRITES : mg "WRITES" = some (.ref aW)
  g_INVERTED : mg "INVERTED" = some (.ref aI)
  g_isinstance : mg "isinstance" = none
  cl : Cls K C
  nR : NoAttr K C "reading"
  nW : NoAttr K C "writing"
  nD : NoAttr K C "device"
  nS : NoAttr K C "states"
  rd : ClX.CRead K C mc
  cR : ∃ a, ClX.CVal K C mc "READINGS" (.ref a) (.ref a) ∧ KTup K a (RD.map V.str)
  cW : ∃ a, ClX.CVal K C mc "WRITINGS" (.ref a) (.ref a) ∧ KTup K a (WR.map V.str)
  cD : ∃ a, ClX.CVal K C mc "DEVICES" (.ref a) (.ref a) ∧ KTup K a (DV.map V.str)
  tW : ∀ x ∈ WR, ∃ t t0 t1, KDct K w aW x (.ref t) ∧ KTup K t [.ref t0, .ref t1] ∧ KTup K t0 [.int (tabV x 0 0), .int (tabV x 0 1)] ∧ KTup K t1 [.int (tabV x 1 0), .int (tabV x 1 1)]
  tI : ∀ x ∈ DV, ∃ t, KDct K w aI x (.ref t) ∧ KTup K t (invL x)
  isC : PySem.W.findIn K (.ref C) "__class__" = some (some (.builtin "object.__class__"))
  isG : PySem.W.specialIn K (.builtin "object.__class__") "__get__" = some (some (.builtin "getset_descriptor.__get__"))
  isT : PySem.W.takesIn K (.builtin "object.__class__") = some true
  isM : PySem.W.mroIn K C (.type "object") = some true
/-! ### promises -/
def spInit (C : Addr) : Sp := fun vs H Q _ => ∃ (x dx : Addr) (r w d : Str), vs = [.ref x, .str r, .str w, .str d] ∧ H x = some (.ins C dx []) ∧ r ∈ RD ∧ w ∈ WR ∧ d ∈ DV ∧
  ∀ H', KindAt C H' x r w d → (∀ b o, H b = some o → b ≠ x → H' b = some o) → Q .non H'
def spAR (C : Addr) : Sp := fun vs H Q _ => ∃ (k : Addr) (r w d : Str) (s : Int), vs = [.ref k, .int s] ∧ KindAt C H k r w d ∧ Q (.int (rdF r s)) H
def spUN (C : Addr) : Sp := fun vs H Q _ => ∃ (k : Addr) (r w d : Str) (s b : Int), vs = [.ref k, .int s, .int b] ∧ KindAt C H k r w d ∧ w ∈ WR ∧ St4 s ∧ (b = 0 ∨ b = 1) ∧ Q (.int (tabV w (Builtin.bitAnd s 1) b)) H
def spAW (C : Addr) : Sp := fun vs H Q _ => ∃ (k : Addr) (r w d : Str) (s b : Int), vs = [.ref k, .int s, .int b] ∧ KindAt C H k r w d ∧ w ∈ WR ∧ St4 s ∧ (b = 0 ∨ b = 1) ∧ Q (.int (awF w s b)) H
def spDE (C : Addr) : Sp := fun vs H Q _ => ∃ (k : Addr) (r w d : Str) (s : Int), vs = [.ref k, .int s] ∧ KindAt C H k r w d ∧ d ∈ DV ∧ St4 s ∧ ∀ t H', H t = none → H' t = some (.tup (dvF d s)) → Same H H' → Q (.ref t) H'
def spEQ (C : Addr) : Sp := fun vs H Q _ => ∃ (k j : Addr) (r w d r' w' d' : Str), vs = [.ref k, .ref j] ∧ KindAt C H k r w d ∧ KindAt C H j r' w' d' ∧ Q (.bl (decide (r = r') && decide (w = w') && decide (d = d'))) H
def spST (C : Addr) : Sp := fun vs H Q _ => ∃ (k : Addr) (r w d : Str), vs = [.ref k] ∧ KindAt C H k r w d ∧ r ∈ RD ∧ w ∈ WR ∧ d ∈ DV ∧ Q (.str (Str.empty ++ r ++ " " ++ w ++ " " ++ d)) H
section
variable {P : Program} {w : World} {K : PySem.W.Frag} {mg : Str → Option Value} {base : Heap} {C aW aI : Addr} {mc : Value}
theorem ok_AR {f : Addr} (D : MetAt K C "after_read" "Kind.after_read" s_Kind_after_read ["self", "state"] f) (T : KT K w mg C aW aI mc) : ∃ fd, Meth K C "after_read" f ∧ Fun K "after_read" "Kind.after_read" s_Kind_after_read f fd ∧ Binds K fd ["self", "state"] [] ∧ Gd P w K mg base CX0 1 f fd ["self", "state"] (spAR C) := by
  refine D.gd sc_Kind_after_read (fun vs H Q E h => ?_) (fun cdv A outer s H vs Q E rm gd h => ?_)
  · obtain ⟨k, r, w, d, s, rfl, _⟩ := h
    rfl
  · obtain ⟨k, r, w, d, s, rfl, ⟨dx, st, hk, hs⟩, q⟩ := h
    obtain ⟨tS, gS⟩ := T.g_SPENT
    have cl := T.cl
    have nR := T.nR
    refine ⟨_, (pss_cons (ps_if (pt_cmpR op_eq (pe_fld (pv 0) rfl) pe_str (nomark _))
      (pss_one (ps_ret (pe_op op_and (pv 1) (pe_glob (v := .int 2) rfl gS ⟨_, rfl⟩))))
      pss_nil)
    (pss_one (ps_ret (pv 1)))), ?_⟩
    walk_at "go"
    refine ite2 (fun h => ?_) (fun h => ?_)
    · have e : r = "take" := V.str.inj (of_decide_eq_true h)
      walk_at "go"
      unfold rdF at q
      rw [if_pos e] at q
      exact q
    · have e : ¬ r = "take" := fun z => h (decide_eq_true (congrArg V.str z))
      walk_at "go"
      unfold rdF at q
      rw [if_neg e] at q
      exact q
theorem ok_UN {f : Addr} (D : MetAt K C "unguarded" "Kind.unguarded" s_Kind_unguarded ["self", "state", "bit"] f) (T : KT K w mg C aW aI mc) : ∃ fd, Meth K C "unguarded" f ∧ Fun K "unguarded" "Kind.unguarded" s_Kind_unguarded f fd ∧ Binds K fd ["self", "state", "bit"] [] ∧ Gd P w K mg base CX0 1 f fd ["self", "state", "bit"] (spUN C) := by
  refine D.gd sc_Kind_unguarded (fun vs H Q E h => ?_) (fun cdv A outer s H vs Q E rm gd h => ?_)
  · obtain ⟨k, r, w, d, s, b, rfl, _⟩ := h
    rfl
  · obtain ⟨k, r, wr, d, s, b, rfl, ⟨dx, st, hk, hs⟩, hw, h4, hb, q⟩ := h
    obtain ⟨t, t0, t1, kd, kt, k0, k1⟩ := T.tW wr hw
    have cl := T.cl
    have nW := T.nW
    refine ⟨_, (pss_cons (ps_set (i := 3) sc_Kind_unguarded.nd rfl (Or.inl rfl) (pe_ix ix_kdict (pe_glob (v := .ref aW) rfl T.g_WRITES rfl) (pe_fld (pv 0) rfl) (fun _ _ => rfl)))
    (pss_one (ps_ret (pe_ix ix_tup (pe_ix ix_tup (pv 3) (pe_op op_and (pv 1) pe_int) (fun _ _ => rfl)) (pv 2) (fun _ _ => rfl))))), ?_⟩
    walk_at "go"
    refine w_kd kd ?_
    walk_at "go"
    have h2 : Builtin.bitAnd s 1 = 0 ∨ Builtin.bitAnd s 1 = 1 := by
      rcases h4 with rfl | rfl | rfl | rfl <;> decide
    rcases h2 with e | e <;> rw [e] at q ⊢
    · refine w_ixT (kt.t _) rfl ?_
      walk_at "go"
      rcases hb with rfl | rfl
      · exact w_ixT (k0.t _) rfl q
      · exact w_ixT (k0.t _) rfl q
    · refine w_ixT (kt.t _) rfl ?_
      walk_at "go"
      rcases hb with rfl | rfl
      · exact w_ixT (k1.t _) rfl q
      · exact w_ixT (k1.t _) rfl q
theorem ok_AW {f u : Addr} (D : MetAt K C "after_write" "Kind.after_write" s_Kind_after_write ["self", "state", "bit"] f) (T : KT K w mg C aW aI mc) (mU : Met P w K mg base 1 C "unguarded" u (spUN C)) :
    ∃ fd, Meth K C "after_write" f ∧ Fun K "after_write" "Kind.after_write" s_Kind_after_write f fd ∧ Binds K fd ["self", "state", "bit"] [] ∧ Gd P w K mg base CX0 2 f fd ["self", "state", "bit"] (spAW C) := by
  refine D.gd sc_Kind_after_write (fun vs H Q E h => ?_) (fun cdv A outer s H vs Q E rm gd h => ?_)
  · obtain ⟨k, r, w, d, s, b, rfl, _⟩ := h
    rfl
  · obtain ⟨k, r, wr, d, s, b, rfl, ⟨dx, st, hk, hs⟩, hw, h4, hb, q⟩ := h
    obtain ⟨tS, gS⟩ := T.g_SPENT
    refine ⟨_, (pss_cons (ps_if (pt_cmpR op_ne (pe_op op_and (pv 1) (pe_glob (v := .int 2) rfl gS ⟨_, rfl⟩)) pe_int (nomark _))
      (pss_one (ps_ret (pv 1)))
      pss_nil)
    (pss_one (ps_ret (pm mU T.cl rm (by decide) gd (pv 0) (pa_cons (pv 1) (pa_cons (pv 2) pa_nil)))))), ?_⟩
    walk_at "go"
    refine ite2 (fun h => ?_) (fun h => ?_)
    · have e : ¬ Builtin.bitAnd s 2 = 0 := fun z => by
        rw [z] at h
        exact absurd h (by decide)
      walk_at "go"
      unfold awF at q
      rw [if_neg e] at q
      exact q
    · have e : Builtin.bitAnd s 2 = 0 := by
        by_cases z : Builtin.bitAnd s 2 = 0
        · exact z
        · refine absurd ?_ h
          rw [decide_eq_false (fun y => z (V.int.inj y))]
          rfl
      walk_at "go"
      unfold awF at q
      rw [if_pos e] at q
      exact ⟨k, r, wr, d, s, b, rfl, ⟨dx, st, hk, hs⟩, hw, h4, hb, q⟩
theorem ok_DE {f : Addr} (D : MetAt K C "deeds" "Kind.deeds" s_Kind_deeds ["self", "state"] f) (T : KT K w mg C aW aI mc) : ∃ fd, Meth K C "deeds" f ∧ Fun K "deeds" "Kind.deeds" s_Kind_deeds f fd ∧ Binds K fd ["self", "state"] [] ∧ Gd P w K mg base CX0 1 f fd ["self", "state"] (spDE C) := by
  refine D.gd sc_Kind_deeds (fun vs H Q E h => ?_) (fun cdv A outer s H vs Q E rm gd h => ?_)
  · obtain ⟨k, r, w, d, s, rfl, _⟩ := h
    rfl
  · obtain ⟨k, r, wr, d, s, rfl, ⟨dx, st, hk, hs⟩, hd, h4, q⟩ := h
    obtain ⟨t, kd, kt⟩ := T.tI d hd
    have cl := T.cl
    have nD := T.nD
    refine ⟨_, (pss_cons (ps_if (pt_cmpR op_in_seq (pe_op op_and (pv 1) pe_int) (pe_ix ix_kdict (pe_glob (v := .ref aI) rfl T.g_INVERTED rfl) (pe_fld (pv 0) rfl) (fun _ _ => rfl)) rfl)
      (pss_one (ps_ret (pe_tup (pa_cons (pe_op op_xor (pv 1) pe_int) pa_nil))))
      pss_nil)
    (pss_one (ps_ret (pe_tup pa_nil)))), ?_⟩
    walk_at "go"
    refine w_kd kd ?_
    refine w_in (.inr (kt.t _)) rfl ?_ ?_
    · unfold invL
      repeat' split
      all_goals rfl
    walk_at "go"
    refine ite2 (fun h => ?_) (fun h => ?_)
    · have e : inV (.int (Builtin.bitAnd s 1)) (invL d) = true := h
      walk_at "go"
      refine new (by show 1 ≤ sizeLine; decide) fun t H' nt ht s1 => ?_
      unfold dvF at q
      rw [if_pos e] at q
      exact q t H' nt ht s1
    · have e : ¬ inV (.int (Builtin.bitAnd s 1)) (invL d) = true := h
      walk_at "go"
      refine new (by show 0 ≤ sizeLine; decide) fun t H' nt ht s1 => ?_
      unfold dvF at q
      rw [if_neg e] at q
      exact q t H' nt ht s1
theorem ty_kind (T : KT K w mg C aW aI mc) {H : Hp} {k : Addr} {r wr d : Str} (h : KindAt C H k r wr d) : TyX K H (.ref k) (.ref C) := by
  obtain ⟨dx, st, hk, _⟩ := h
  exact .base (.ins hk T.cl T.isC T.isG T.isT T.isM)
theorem ok_EQ {f : Addr} (D : MetAt K C "__eq__" "Kind.__eq__" s_Kind___eq__ ["self", "other"] f) (T : KT K w mg C aW aI mc) : ∃ fd, Meth K C "__eq__" f ∧ Fun K "__eq__" "Kind.__eq__" s_Kind___eq__ f fd ∧ Binds K fd ["self", "other"] [] ∧ Gd P w K mg base CX0 1 f fd ["self", "other"] (spEQ C) := by
  refine D.gd sc_Kind___eq__ (fun vs H Q E h => ?_) (fun cdv A outer s H vs Q E rm gd h => ?_)
  · obtain ⟨k, j, r, w, d, r', w', d', rfl, _⟩ := h
    rfl
  · obtain ⟨k, j, r, wr, d, r', w', d', rfl, Hk, Hj, q⟩ := h
    obtain ⟨dx, st, hk, hs⟩ := id Hk
    obtain ⟨dy, su, hj, hu⟩ := id Hj
    have B := T
    have cl := T.cl
    have nR := T.nR
    have nW := T.nW
    have nD := T.nD
    refine ⟨_, (pss_one (ps_ret (pe_and (pe_callB call_isi (by rfl) B.g_isinstance (by decide +kernel) (pa_cons (pv 1) (pa_cons (pe_glob (v := .ref C) rfl T.g_Kind rfl) pa_nil))) (pe_and (pe_cmpR op_eq (pe_fld (pv 0) rfl) (pe_fld (pv 1) rfl) (nomark _)) (pe_and (pe_cmpR op_eq (pe_fld (pv 0) rfl) (pe_fld (pv 1) rfl) (nomark _)) (pe_one (pe_cmpR op_eq (pe_fld (pv 0) rfl) (pe_fld (pv 1) rfl) (nomark _)))))))), ?_⟩
    walk_at "go"
    refine ⟨.ref j, .ref C, .ref C, .ref C, true, rfl, .own C, ty_kind T Hj, if_pos (beq_self_eq_true _), true, rfl, ?_⟩
    refine iteT ?_
    walk_at "go"
    have dS : ∀ a b : Str, decide (V.str a = V.str b) = decide (a = b) := fun a b => by
      by_cases h : a = b
      · subst h
        rw [decide_eq_true rfl, decide_eq_true rfl]
      · rw [decide_eq_false h, decide_eq_false fun z => h (V.str.inj z)]
    rw [dS]
    by_cases h1 : r = r'
    · rw [decide_eq_true h1] at q ⊢
      refine iteT ?_
      walk_at "go"
      rw [dS]
      by_cases h2 : wr = w'
      · rw [decide_eq_true h2] at q ⊢
        refine iteT ?_
        walk_at "go"
        rw [dS]
        exact q
      · rw [decide_eq_false h2] at q ⊢
        exact iteF q
    · rw [decide_eq_false h1] at q ⊢
      exact iteF q
theorem in_mem {x : Str} : ∀ {l : List Str}, x ∈ l → inV (.str x) (l.map V.str) = true
  | [], h => absurd h List.not_mem_nil
  | y :: l, h => by
    show (eqV (.str y) (.str x) || (l.map V.str).any fun z => eqV z (.str x)) = true
    rcases List.mem_cons.mp h with e | e
    · subst e
      rw [show eqV (V.str x) (V.str x) = true from beq_self_eq_true x, Bool.true_or]
    · have := in_mem e
      unfold inV at this
      rw [this, Bool.or_true]
theorem flat_strs : ∀ l : List Str, (l.map V.str).all flatV = true
  | [] => rfl
  | _ :: l => by
    rw [List.map_cons, List.all_cons, flat_strs l]
    rfl
theorem sh_rd : ∀ x ∈ RD, x.length ≤ 10 := by decide +kernel
theorem sh_wr : ∀ x ∈ WR, x.length ≤ 10 := by decide +kernel
theorem sh_dv : ∀ x ∈ DV, x.length ≤ 10 := by decide +kernel
theorem ln {a b : Str} {n m k : Nat} (h1 : a.length ≤ n) (h2 : b.length ≤ m) (h : n + m ≤ k) : (a ++ b).length ≤ k := by
  rw [strLen_append]
  omega
theorem ok_IN {f : Addr} (D : MetAt K C "__init__" "Kind.__init__" s_Kind___init__ ["self", "reading", "writing", "device"] f) (T : KT K w mg C aW aI mc) :
    ∃ fd, Meth K C "__init__" f ∧ Fun K "__init__" "Kind.__init__" s_Kind___init__ f fd ∧ Binds K fd ["self", "reading", "writing", "device"] [] ∧ Gd P w K mg base CX0 1 f fd ["self", "reading", "writing", "device"] (spInit C) := by
  refine D.gd sc_Kind___init__ (fun vs H Q E h => ?_) (fun cdv A outer s H vs Q E rm gd h => ?_)
  · obtain ⟨x, dx, r, w, d, rfl, _⟩ := h
    rfl
  · obtain ⟨x, dx, r, wr, d, rfl, hx, hr, hw, hd, q⟩ := h
    obtain ⟨aR, cR, kR⟩ := T.cR
    obtain ⟨bW, cW, kW⟩ := T.cW
    obtain ⟨aD, cD, kD⟩ := T.cD
    have cl := T.cl
    have nR := T.nR
    have nW := T.nW
    have nD := T.nD
    have nS := T.nS
    refine ⟨_, (pss_cons (ps_for PassesOwn.never rfl (pi_tup (pe_tup (pa_cons (pe_tup (pa_cons (pv 1) (pa_cons (ClX.pe_cval (pe_glob (v := .ref C) rfl T.g_Kind rfl)) pa_nil))) (pa_cons (pe_tup (pa_cons (pv 2) (pa_cons (ClX.pe_cval (pe_glob (v := .ref C) rfl T.g_Kind rfl)) pa_nil))) (pa_cons (pe_tup (pa_cons (pv 3) (pa_cons (ClX.pe_cval (pe_glob (v := .ref C) rfl T.g_Kind rfl)) pa_nil))) pa_nil))))) (pg_tup rfl (pgs_cons (pg_name (i := 4) sc_Kind___init__.nd rfl (Or.inl rfl)) (pgs_cons (pg_name (i := 5) sc_Kind___init__.nd rfl (Or.inl rfl)) pgs_nil)))
      (pss_one (ps_if (pt_cmpR op_notIn_seq (pv 4) (pv 5) rfl)
        (pss_one ps_never)
        pss_nil)))
    (pss_cons (ps_fld (pv 0) (pv 1) rfl)
    (pss_cons (ps_fld (pv 0) (pv 2) rfl)
    (pss_cons (ps_fld (pv 0) (pv 3) rfl)
    (pss_one (ps_fld (pv 0) (pe_ifExp (pt_cmpR op_eq (pv 2) pe_str (nomark _)) (pe_tup (pa_cons pe_int (pa_cons pe_int (pa_cons pe_int (pa_cons pe_int pa_nil))))) (pe_tup (pa_cons pe_int (pa_cons pe_int pa_nil)))) rfl)))))), ?_⟩
    walk_at "go"
    refine ⟨C, mc, .ref aR, .ref aR, rfl, T.rd, cR, ?_⟩
    walk_at "go"
    refine new (by show 2 ≤ sizeLine; decide) fun t1 H1 n1 h1 s1 => ?_
    walk_at "go"
    refine ⟨C, mc, .ref bW, .ref bW, rfl, T.rd, cW, ?_⟩
    walk_at "go"
    refine new (by show 2 ≤ sizeLine; decide) fun t2 H2 n2 h2 s2 => ?_
    walk_at "go"
    refine ⟨C, mc, .ref aD, .ref aD, rfl, T.rd, cD, ?_⟩
    walk_at "go"
    refine new (by show 2 ≤ sizeLine; decide) fun t3 H3 n3 h3 s3 => ?_
    walk_at "go"
    refine new (by show 3 ≤ sizeLine; decide) fun t4 H4 n4 h4 s4 => ?_
    have sA := s1.trans (s2.trans (s3.trans s4))
    refine over_t (SqT.of h4) (for_tup (xs := [.ref t1, .ref t2, .ref t3]) (fun i σ H' => ∃ v4 v5, σ = [some (.ref x), some (.str r), some (.str wr), some (.str d), v4, v5] ∧ Same H4 H') ⟨none, none, rfl, Same.refl _⟩ (fun i σ H' _ ⟨_, _, _, z⟩ => SqT.of (z _ _ h4)) ?_ ?_)
    · rintro i y σ H' hi ⟨v4, v5, rfl, z⟩
      have one : ∀ {t a : Addr} {val : Str} {l : List Str} (ht : H4 t = some (.tup [.str val, .ref a])) (ka : KTup K a (l.map V.str)) (hm : val ∈ l) (D : Ends),
          (D.nx = fun σ H' => ∃ v4 v5, σ = [some (.ref x), some (.str r), some (.str wr), some (.str d), v4, v5] ∧ Same H4 H') → True := fun _ _ _ _ _ => trivial
      match i, hi with
      | 0, hi =>
        cases hi
        refine ⟨t1, [.str r, .ref aR], rfl, SqT.of (z _ _ (s4 _ _ (s3 _ _ (s2 _ _ h1)))), rfl, _, _, rfl, _, _, rfl, rfl, ?_⟩
        walk_at "go"
        refine w_in (.inr (kR.t _)) rfl (flat_strs _) ?_
        walk_at "go"
        rw [in_mem hr]
        refine iteF ?_
        exact ⟨_, _, rfl, z⟩
      | 1, hi =>
        cases hi
        refine ⟨t2, [.str wr, .ref bW], rfl, SqT.of (z _ _ (s4 _ _ (s3 _ _ h2))), rfl, _, _, rfl, _, _, rfl, rfl, ?_⟩
        walk_at "go"
        refine w_in (.inr (kW.t _)) rfl (flat_strs _) ?_
        walk_at "go"
        rw [in_mem hw]
        refine iteF ?_
        exact ⟨_, _, rfl, z⟩
      | 2, hi =>
        cases hi
        refine ⟨t3, [.str d, .ref aD], rfl, SqT.of (z _ _ (s4 _ _ h3)), rfl, _, _, rfl, _, _, rfl, rfl, ?_⟩
        walk_at "go"
        refine w_in (.inr (kD.t _)) rfl (flat_strs _) ?_
        walk_at "go"
        rw [in_mem hd]
        refine iteF ?_
        exact ⟨_, _, rfl, z⟩
    · rintro σ H5 ⟨v4, v5, rfl, z⟩
      have s5 := sA.trans z
      have hx5 := s5 _ _ hx
      walk_at "go"
      refine sfld hx5 cl nR (by show 0 < 1000; decide) rfl fun H6 h6 e6 => ?_
      walk_at "go"
      refine sfld h6 cl nW (by show 1 < 1000; decide) rfl fun H7 h7 e7 => ?_
      walk_at "go"
      refine sfld h7 cl nD (by show 2 < 1000; decide) rfl fun H8 h8 e8 => ?_
      walk_at "go"
      have fin : ∀ (st : Addr) (H9 H10 : Hp), H9 st = some (.tup (stL wr)) → Same H8 H9 → H10 x = some (.ins C dx (kf r wr d st)) → (∀ b, b ≠ x → H10 b = H9 b) → Q .non H10 := fun st H9 H10 hst s9 hx10 e10 => by
        have nx : st ≠ x := ne_of hst (s9 _ _ h8) (by intro y; cases y)
        refine q H10 ⟨dx, st, hx10, (e10 st nx).trans hst⟩ fun b o e nb => ?_
        rw [e10 b nb]
        refine s9 _ _ ?_
        rw [e8 b nb, e7 b nb, e6 b nb]
        exact s5 _ _ e
      refine ite2 (fun h => ?_) (fun h => ?_)
      · have e : wr = "once" := V.str.inj (of_decide_eq_true h)
        walk_at "go"
        refine new (by show 4 ≤ sizeLine; decide) fun st H9 n9 h9 s9 => ?_
        walk_at "go"
        refine sfld (s9 _ _ h8) cl nS (by show 3 < 1000; decide) rfl fun H10 h10 e10 => ?_
        exact fin st H9 H10 (by rw [h9]; unfold stL; rw [if_pos e]) s9 h10 e10
      · have e : ¬ wr = "once" := fun z => h (decide_eq_true (congrArg V.str z))
        walk_at "go"
        refine new (by show 2 ≤ sizeLine; decide) fun st H9 n9 h9 s9 => ?_
        walk_at "go"
        refine sfld (s9 _ _ h8) cl nS (by show 3 < 1000; decide) rfl fun H10 h10 e10 => ?_
        exact fin st H9 H10 (by rw [h9]; unfold stL; rw [if_neg e]) s9 h10 e10
end
structure B1 (mg : Str → Option Value) : Prop where
  g_int : mg "int" = none
  g_len : mg "len" = none
  g_abs : mg "abs" = none
  g_list : mg "list" = none
  g_repr : mg "repr" = none
  g_range : mg "range" = none
  g_str : mg "str" = none
  g_isinstance : mg "isinstance" = none
  g_tuple : mg "tuple" = none
  g_sorted : mg "sorted" = none
  g_set : mg "set" = none
  g_enumerate : mg "enumerate" = none
  g_zip : mg "zip" = none
/-! ### rows of ends -/
def S4 : List Int := [0, 1, 2, 3]
def pick (S : Int → Bool) : List Int := S4.filter S
theorem asc_uniq : ∀ {a b : List Int}, a.Pairwise (· < ·) → b.Pairwise (· < ·) → (∀ k, k ∈ a ↔ k ∈ b) → a = b
  | [], [], _, _, _ => rfl
  | [], y :: b, _, _, h => by simpa using (h y).mpr List.mem_cons_self
  | x :: a, [], _, _, h => by simpa using (h x).mp List.mem_cons_self
  | x :: a, y :: b, ha, hb, h => by
    obtain ⟨hx, ha⟩ := List.pairwise_cons.mp ha
    obtain ⟨hy, hb2⟩ := List.pairwise_cons.mp hb
    have e : x = y := by
      rcases List.mem_cons.mp ((h x).mp List.mem_cons_self) with e | e
      · exact e
      · rcases List.mem_cons.mp ((h y).mpr List.mem_cons_self) with e' | e'
        · exact e'.symm
        · have := hy x e
          have := hx y e'
          omega
    subst e
    have t : ∀ k, k ∈ a ↔ k ∈ b := fun k => by
      refine ⟨fun z => ?_, fun z => ?_⟩
      · rcases List.mem_cons.mp ((h k).mp (List.mem_cons_of_mem _ z)) with e | e
        · have := hx k z
          omega
        · exact e
      · rcases List.mem_cons.mp ((h k).mpr (List.mem_cons_of_mem _ z)) with e | e
        · have := hy k z
          omega
        · exact e
    rw [asc_uniq ha hb2 t]
theorem s4_mem {k : Int} : k ∈ S4 ↔ 0 ≤ k ∧ k < 4 := by
  unfold S4
  simp only [List.mem_cons, List.not_mem_nil, or_false]
  omega
theorem pick_mem {S : Int → Bool} {k : Int} : k ∈ pick S ↔ (0 ≤ k ∧ k < 4) ∧ S k = true := by
  unfold pick
  rw [List.mem_filter, s4_mem]
theorem pick_asc (S : Int → Bool) : (pick S).Pairwise (· < ·) := List.Pairwise.filter _ (by unfold S4; decide)
theorem pick_len (S : Int → Bool) : (pick S).length ≤ 4 := List.length_filter_le _ _
theorem asc_pick {ns : List Int} {S T : Int → Bool} (h1 : ns.Pairwise (· < ·)) (h2 : ∀ k : Int, k ∈ ns ↔ S k = true) (h3 : ∀ k, S k = true ↔ (0 ≤ k ∧ k < 4) ∧ T k = true) : ns = pick T :=
  asc_uniq h1 (pick_asc T) fun k => by rw [h2 k, h3 k, pick_mem]
theorem asc_of_le : ∀ {ns : List Int}, ns.Pairwise (· ≤ ·) → ns.Nodup → ns.Pairwise (· < ·)
  | [], _, _ => .nil
  | x :: l, h, n => by
    obtain ⟨h1, h2⟩ := List.pairwise_cons.mp h
    obtain ⟨n1, n2⟩ := List.nodup_cons.mp n
    refine List.pairwise_cons.mpr ⟨fun y hy => ?_, asc_of_le h2 n2⟩
    have := h1 y hy
    rcases Int.lt_or_eq_of_le this with z | z
    · exact z
    · exact absurd (z ▸ hy) n1
theorem sorted_pick {ns xs : List Int} {T : Int → Bool} (p : ns.Perm xs) (h1 : ns.Pairwise (· ≤ ·)) (nd : xs.Nodup) (h3 : ∀ k, k ∈ xs ↔ (0 ≤ k ∧ k < 4) ∧ T k = true) : ns = pick T :=
  asc_uniq (asc_of_le h1 (p.nodup_iff.mpr nd)) (pick_asc T) fun k => by rw [p.mem_iff, h3 k, pick_mem]
def RowsAt (H : Hp) (t : Addr) (rows : List (List Int)) : Prop := ∃ ts : List Addr, H t = some (.tup (ts.map V.ref)) ∧ ts.length = rows.length ∧ ∀ (j : Nat) (a : Addr) (r : List Int), ts[j]? = some a → rows[j]? = some r → H a = some (.tup (r.map V.int))
/-- the same as a list that is being filled -/
def RowsL (H : Hp) (D : Addr) (rows : List (List Int)) : Prop := ∃ ts : List Addr, H D = some (.lst (ts.map V.ref)) ∧ ts.length = rows.length ∧ ∀ (j : Nat) (a : Addr) (r : List Int), ts[j]? = some a → rows[j]? = some r → H a = some (.tup (r.map V.int))
theorem RowsAt.same {H H' : Hp} {t : Addr} {rows : List (List Int)} (h : RowsAt H t rows) (s : Same H H') : RowsAt H' t rows := by
  obtain ⟨ts, h1, h2, h3⟩ := h
  exact ⟨ts, s _ _ h1, h2, fun j a r e1 e2 => s _ _ (h3 j a r e1 e2)⟩
theorem RowsL.same {H H' : Hp} {t : Addr} {rows : List (List Int)} (h : RowsL H t rows) (s : Same H H') : RowsL H' t rows := by
  obtain ⟨ts, h1, h2, h3⟩ := h
  exact ⟨ts, s _ _ h1, h2, fun j a r e1 e2 => s _ _ (h3 j a r e1 e2)⟩
theorem snoc_at {α : Type} {l : List α} {x y : α} {i : Nat} (e : (l ++ [x])[i]? = some y) : l[i]? = some y ∨ (i = l.length ∧ y = x) := by
  rcases Nat.lt_or_ge i l.length with c | c
  · rw [List.getElem?_append_left c] at e
    exact .inl e
  · rw [List.getElem?_append_right c] at e
    have hz : i - l.length = 0 := by
      have := (List.getElem?_eq_some_iff.mp e).1
      simp at this
      omega
    rw [hz] at e
    exact .inr ⟨by omega, (Option.some.inj e).symm⟩
/-- one more row -/
theorem RowsL.snoc {H : Hp} {D t : Addr} {rows : List (List Int)} {row : List Int} (h : RowsL H D rows) (ht : H t = some (.tup (row.map V.int))) :
    ∃ acc, H D = some (.lst acc) ∧ acc.length = rows.length ∧ RowsL (upd H D (.lst (acc ++ [.ref t]))) D (rows ++ [row]) := by
  obtain ⟨ts, h1, h2, h3⟩ := h
  have nD : ∀ q xs, H q = some (.tup xs) → q ≠ D := fun q xs e z => by
    rw [z, h1] at e
    cases e
  refine ⟨_, h1, by rw [List.length_map]; exact h2, ts ++ [t], by rw [upd_same, List.map_append]; rfl, by rw [List.length_append, List.length_append, h2]; rfl, fun j a r e1 e2 => ?_⟩
  rcases snoc_at e1 with f1 | ⟨f1, g1⟩
  · have hj := (List.getElem?_eq_some_iff.mp f1).1
    rw [List.getElem?_append_left (by omega)] at e2
    have := h3 j a r f1 e2
    rw [upd_ne (nD _ _ this)]
    exact this
  · rcases snoc_at e2 with f2 | ⟨_, g2⟩
    · have := (List.getElem?_eq_some_iff.mp f2).1
      omega
    · rw [g1, g2, upd_ne (nD _ _ ht)]
      exact ht
theorem RowsL.at_ {H : Hp} {D : Addr} {rows : List (List Int)} (h : RowsL H D rows) : ∃ xs, H D = some (.lst xs) := let ⟨_, h1, _⟩ := h; ⟨_, h1⟩
theorem RowsL.nil {H : Hp} {D : Addr} (h : H D = some (.lst [])) : RowsL H D [] := ⟨[], h, rfl, fun j a r e => by cases e⟩
/-- tuple(..) of the list -/
theorem RowsL.tup {H : Hp} {D t : Addr} {rows : List (List Int)} (h : RowsL H D rows) (nt : H t = none) : ∃ xs, H D = some (.lst xs) ∧ xs.length = rows.length ∧ RowsAt (upd H t (.tup xs)) t rows := by
  obtain ⟨ts, h1, h2, h3⟩ := h
  refine ⟨_, h1, by rw [List.length_map]; exact h2, ts, upd_same, h2, fun j a r e1 e2 => ?_⟩
  have := h3 j a r e1 e2
  rw [upd_ne (ne_of_none this nt)]
  exact this
theorem big_of {n : Nat} (h : n ≤ 1000) : n < sizeLine := Nat.lt_of_le_of_lt h (by decide)
def stN (w : Str) : List Int := if w = "once" then [0, 1, 2, 3] else [0, 1]
theorem stN_L (w : Str) : stL w = (stN w).map V.int := by
  unfold stL stN
  split <;> rfl
def dvI (d : Str) (s : Int) : List Int := if inV (.int (Builtin.bitAnd s 1)) (invL d) = true then [Builtin.bitXor s 1] else []
theorem dvI_V (d : Str) (s : Int) : dvF d s = (dvI d s).map V.int := by
  unfold dvF dvI
  split <;> rfl
def clo (d : Str) (s : Int) : List Int := pick fun k => decide (k = s) || (dvI d s).contains k
def betw (q : Bool) (w d : Str) : List (List Int) := (stN w).map fun s => if q = true then [s] else clo d s
def letR (r w c : Str) : List (List Int) := (stN w).map fun s => if c = "r" then [rdF r s] else if c = "1" then [awF w s 1] else [awF w s 0]
def joinR (F G : List (List Int)) : List (List Int) := F.map fun e => pick fun k => e.any fun m => (G.getD m.toNat []).contains k
/-- rows of ends in a kind of n states -/
structure Rw (n : Nat) (F : List (List Int)) : Prop where
  len : F.length = n
  bd : ∀ e ∈ F, ∀ k ∈ e, 0 ≤ k ∧ k < n
  few : ∀ e ∈ F, e.length ≤ 4
theorem Rw.joinR {n : Nat} {F G : List (List Int)} (h : Rw n F) (g : Rw n G) : Rw n (joinR F G) := by
  refine ⟨by unfold Law.joinR; rw [List.length_map]; exact h.len, fun e he k hk => ?_, fun e he => ?_⟩
  · obtain ⟨e0, h0, rfl⟩ := List.mem_map.mp he
    obtain ⟨_, h2⟩ := pick_mem.mp hk
    obtain ⟨m, _, h3⟩ := List.any_eq_true.mp h2
    have h3 : k ∈ G.getD m.toNat [] := by simpa using h3
    rw [List.getD_eq_getElem?_getD] at h3
    cases eg : G[m.toNat]? with
    | none =>
      rw [eg] at h3
      cases h3
    | some x =>
      rw [eg] at h3
      exact g.bd x (List.mem_of_getElem? eg) k h3
  · obtain ⟨e0, h0, rfl⟩ := List.mem_map.mp he
    exact pick_len _
def rTupOf (K : PySem.W.Frag) : List V → Hp → VK → Prop := fun xs H Q => ∃ p ys, xs = [.ref p] ∧ ((SqL K H p ys ∧ ∀ l, H l = none → Q (.ref l) (upd H l (.tup ys))) ∨ (SqT K H p ys ∧ Q (.ref p) H))
theorem cr_tupOf {X : Cx} : CallR X (.type "tuple") (rTupOf X.K) := call_tuple_of
def rListOf (K : PySem.W.Frag) : List V → Hp → VK → Prop := fun xs H Q => ∃ p ys, xs = [.ref p] ∧ (SqL K H p ys ∨ SqT K H p ys) ∧ ∀ l, H l = none → Q (.ref l) (upd H l (.lst ys))
theorem cr_listOf {X : Cx} : CallR X (.type "list") (rListOf X.K) := call_list_of
/-- the scope of a block within a block -/
def relS (sc scope : Scope) : Scope := { scope with names := scope.names.map fun (n, k) => if (k == NameKind.free && sc.kind == .function && sc.names.lookup n == some .cell) then (n, NameKind.cell) else (n, k) }
/-! ### promises -/
def spCL : Sp := fun vs H Q _ => ∃ x : Str, vs = [.str x] ∧ x.cps.size ≤ 40 ∧ (∀ c ∈ x.cps.toList, c ∈ ("01r" : Str).cps.toList) ∧ ∀ H', Same H H' → Q .non H'
def spJoin : Sp := fun vs H Q _ => ∃ (f g : Addr) (F G : List (List Int)) (n : Nat), vs = [.ref f, .ref g] ∧ RowsAt H f F ∧ RowsAt H g G ∧ Rw n F ∧ Rw n G ∧ n ≤ 4 ∧ ∀ t H', H t = none → RowsAt H' t (joinR F G) → Same H H' → Q (.ref t) H'
section
variable {P : Program} {w : World} {K : PySem.W.Frag} {mg : Str → Option Value} {base : Heap}
theorem back {H H' : Hp} {a : Addr} (s : Same H H') (h : H' a = none) : H a = none := by
  cases e : H a with
  | none => rfl
  | some o =>
    rw [s _ _ e] at h
    cases h
theorem ok_joined (D : DefAt K mg "joined" s_joined ["first", "second"]) (B : B1 mg) : Cal P w K mg base 1 "joined" spJoin := by
  refine D.cal sc_joined (fun vs H Q E h => ?_) (fun f cdv A outer s H vs Q E rm gd h => ?_)
  · obtain ⟨f, g, F, G, n, rfl, _⟩ := h
    rfl
  · obtain ⟨f, g, F, G, n, rfl, hF, hG, rF, rG, n4, q⟩ := h
    refine ⟨_, (pss_one (ps_ret (pe_callTy call_tuple_of (by rfl) B.g_tuple (by decide +kernel) (pa_cons (pe_lc (own := [("ends", 4)]) (g := (gName 4)) (by rfl) sc_joined.nd (pi_tup (pv 0)) (blkOk_by (own := [("ends", 4)]) (N := ["first", "second", "middle", "end", "ends"]) (sc := defScope s_joined) (by decide +kernel)) (fun _ _ _ _ _ => (pg_name (i := 4) sc_joined.nd rfl (Or.inl rfl))) (fun _ _ _ _ _ => pts_nil) (fun _ _ _ _ _ => (show PE _ _ (tCB (rTupOf K) (tCons (tCB (rSortedSet w) (tCons (tSc2 w (iTup K (tVar 4)) (gName 2) tYes (iTup K (tOp (rIxT K) (tVar 1) (tVar 2))) (gName 3) tYes (tVar 3) [2, 3] [3]) tNil)) tNil)) from pe_callTy (T := "tuple") (r := rTupOf K) cr_tupOf (by rfl) B.g_tuple (by decide +kernel) (pa_cons (pe_callB (id := "sorted") (r := rSortedSet w) (cr_sortedSet rfl) (by rfl) B.g_sorted (by decide +kernel) (pa_cons (pe_sc2 (own := [("middle", 2), ("end", 3)]) (vs1 := [3]) (wi := iTup K (tVar 4)) (g := gName 2) (tt := tYes) (wi1 := iTup K (tOp (rIxT K) (tVar 1) (tVar 2))) (g1 := gName 3) (tt1 := tYes) (te := tVar 3) (by rfl) sc_joined.nd (pi_tup (pv 4)) (show BlkOk _ _ _ _ from blkOk_by (N := ["first", "second", "middle", "end", "ends"]) (sc := relS (defScope s_joined) _) (by decide +kernel)) (by decide) (fun _ _ _ _ _ => (pg_name (i := 2) sc_joined.nd rfl (Or.inl rfl))) (fun _ _ _ _ _ => pts_nil) (fun _ _ _ _ _ => pi_tup (pe_ix (r := rIxT K) ix_tup (pv 1) (pv 2) (fun _ _ => rfl))) (fun _ _ _ _ _ => (pg_name (i := 3) sc_joined.nd rfl (Or.inl rfl))) (fun _ _ _ _ _ => pts_nil) (fun _ _ _ _ _ => (pv 3))) pa_nil)) pa_nil)))) pa_nil)))), ?_⟩
    walk_at "go"
    obtain ⟨tf, f1, f2, f3⟩ := id hF
    obtain ⟨tg, g1, g2, g3⟩ := id hG
    refine over_t (SqT.of f1) ?_
    intro D nD
    have zD : Same H (upd H D (.lst [])) := fun b u e => by
      rw [upd_ne (ne_of_none e nD)]
      exact e
    refine lc_tup (K := K) (a := f) (xs := tf.map V.ref) (fun i H' => RowsL H' D (joinR (F.take i) G) ∧ Same H H') ⟨.nil upd_same, zD⟩ (fun i H' _ ⟨_, s⟩ => SqT.of (s _ _ f1)) (fun i y H1 hy ⟨hD, s1⟩ => ?_) (fun H1 ⟨hD, s1⟩ => ?_)
    · obtain ⟨a, ha, rfl⟩ : ∃ a, tf[i]? = some a ∧ y = .ref a := by
        rw [List.getElem?_map] at hy
        cases z : tf[i]? with
        | none =>
          rw [z] at hy
          cases hy
        | some c =>
          rw [z] at hy
          exact ⟨c, rfl, (Option.some.inj hy).symm⟩
      have hi := (List.getElem?_eq_some_iff.mp ha).1
      obtain ⟨e, he⟩ : ∃ e, F[i]? = some e := ⟨_, List.getElem?_eq_getElem (by omega)⟩
      have hea := s1 _ _ (f3 i a e ha he)
      have e4 := rF.few e (List.mem_of_getElem? he)
      have eb := rF.bd e (List.mem_of_getElem? he)
      have lF : F.length ≤ 4 := by rw [rF.len]; exact n4
      walk_at "go"
      refine ⟨rfl, ?_⟩
      try unfold tYes
      refine iteT ?_
      walk_at "go"
      refine w_sc2 ?_
      walk_at "go"
      refine over_t (SqT.of hea) ?_
      intro D2 nD2
      have z2 : Same H1 (upd H1 D2 (SetO w D2 (fun _ => false) 0)) := fun b u e => by
        rw [upd_ne (ne_of_none e nD2)]
        exact e
      refine cl_tup (K := K) (a := a) (xs := e.map V.int) (fun i' H' => ∃ (S : Int → Bool) (m' : Nat), H' D2 = some (SetO w D2 S m') ∧ m' ≤ 4 * i' ∧ (∀ k, S k = true ↔ ∃ m ∈ e.take i', k ∈ G.getD m.toNat []) ∧ Same H1 H') ⟨fun _ => false, 0, upd_same, by omega, fun k => by simp, z2⟩ (fun i' H' _ ⟨_, _, _, _, _, s⟩ => SqT.of (s _ _ hea)) (fun i' y' H2 hy' ⟨S, m', hS, hm, hk, s2⟩ => ?_) (fun H2 ⟨S, m', hS, hm, hk, s2⟩ => ?_)
      · obtain ⟨mi, hmi, rfl⟩ : ∃ mi, e[i']? = some mi ∧ y' = .int mi := by
          rw [List.getElem?_map] at hy'
          cases z : e[i']? with
          | none =>
            rw [z] at hy'
            cases hy'
          | some c =>
            rw [z] at hy'
            exact ⟨c, rfl, (Option.some.inj hy').symm⟩
        obtain ⟨b0, b1⟩ := eb mi (List.mem_of_getElem? hmi)
        obtain ⟨m, rfl⟩ := Int.eq_ofNat_of_zero_le b0
        have hmG : m < G.length := by rw [rG.len]; omega
        obtain ⟨row, hrow⟩ : ∃ row, G[m]? = some row := ⟨_, List.getElem?_eq_getElem hmG⟩
        obtain ⟨b, hb⟩ : ∃ b, tg[m]? = some b := ⟨_, List.getElem?_eq_getElem (by omega)⟩
        have eG : G.getD m [] = row := by rw [List.getD_eq_getElem?_getD, hrow]; rfl
        have hbr := s1 _ _ (g3 m b row hb hrow)
        have r4 := rG.few row (List.mem_of_getElem? hrow)
        have i4 : i' < 4 := Nat.lt_of_lt_of_le (List.getElem?_eq_some_iff.mp hmi).1 e4
        walk_at "go"
        refine ⟨rfl, ?_⟩
        try unfold tYes
        refine iteT ?_
        unfold tNext1
        walk_at "go"
        refine w_ixT (SqT.of (s2 _ _ (s1 _ _ g1))) (v := .ref b) (atI_nat (by rw [List.getElem?_map, hb]; rfl)) ?_
        refine over_t (SqT.of (s2 _ _ hbr)) ?_
        refine cl_tup (K := K) (a := b) (xs := row.map V.int) (fun j H' => ∃ (S : Int → Bool) (m' : Nat), H' D2 = some (SetO w D2 S m') ∧ m' ≤ 4 * i' + j ∧ (∀ k, S k = true ↔ (∃ m ∈ e.take i', k ∈ G.getD m.toNat []) ∨ k ∈ row.take j) ∧ Same H1 H') ⟨S, m', hS, by omega, fun k => by rw [hk k]; simp, s2⟩ (fun j H' _ ⟨_, _, _, _, _, s⟩ => SqT.of (s _ _ hbr)) (fun j y'' H3 hy'' ⟨S3, m3, hS3, hm3, hk3, s3⟩ => ?_) (fun H3 ⟨S3, m3, hS3, hm3, hk3, s3⟩ => ?_)
        · obtain ⟨v, hv, rfl⟩ : ∃ v, row[j]? = some v ∧ y'' = .int v := by
            rw [List.getElem?_map] at hy''
            cases z : row[j]? with
            | none =>
              rw [z] at hy''
              cases hy''
            | some c =>
              rw [z] at hy''
              exact ⟨c, rfl, (Option.some.inj hy'').symm⟩
          have hj := (List.getElem?_eq_some_iff.mp hv).1
          walk_at "go"
          refine ⟨rfl, ?_⟩
          try unfold tYes
          refine iteT ?_
          unfold KG.tAdd
          walk_at "go"
          refine ⟨v, S3, m3, rfl, hS3, Nat.lt_of_le_of_lt (show m3 + 1 ≤ 100 by omega) (by decide), _, _, upd_same, by split <;> omega, fun k => ?_, fun q o z => ?_⟩
          · rw [Bool.or_eq_true, hk3 k, decide_eq_true_eq, List.take_add_one, hv, List.mem_append, or_assoc]
            simp
          · have nq : q ≠ D2 := fun z' => by
              rw [z', nD2] at z
              cases z
            rw [upd_ne nq]
            exact s3 _ _ z
        · refine ⟨S3, m3, hS3, ?_, fun k => ?_, s3⟩
          · rw [List.length_map] at hm3
            omega
          · rw [hk3 k, List.length_map, List.take_length, List.take_add_one, hmi]
            constructor
            · rintro (⟨x, hx, hxk⟩ | hxk)
              · exact ⟨x, List.mem_append_left _ hx, hxk⟩
              · exact ⟨(m : Int), List.mem_append_right _ (by simp), by rw [Int.toNat_natCast, eG]; exact hxk⟩
            · rintro ⟨x, hx, hxk⟩
              rcases List.mem_append.mp hx with hx | hx
              · exact .inl ⟨x, hx, hxk⟩
              · obtain rfl : x = (m : Int) := by simpa using hx
                rw [Int.toNat_natCast, eG] at hxk
                exact .inr hxk
      · rw [List.length_map] at hm hk
        rw [List.take_length] at hk
        have row_ok : ∀ k, S k = true ↔ (0 ≤ k ∧ k < 4) ∧ (e.any fun m => (G.getD m.toNat []).contains k) = true := fun k => by
          rw [hk k, List.any_eq_true]
          constructor
          · rintro ⟨x, hx, hxk⟩
            refine ⟨?_, x, hx, by simpa using hxk⟩
            rw [List.getD_eq_getElem?_getD] at hxk
            cases eg : G[x.toNat]? with
            | none =>
              rw [eg] at hxk
              cases hxk
            | some rr =>
              rw [eg] at hxk
              have := rG.bd rr (List.mem_of_getElem? eg) k hxk
              omega
          · rintro ⟨_, x, hx, hxk⟩
            exact ⟨x, hx, by simpa using hxk⟩
        walk_at "go"
        refine ⟨D2, S, m', rfl, hS, by omega, fun ns p pw hm' hl np => ?_⟩
        have ens := asc_pick pw hm' row_ok
        subst ens
        walk_at "go"
        refine ⟨p, _, rfl, .inl ⟨SqL.of upd_same, fun l nl => ?_⟩⟩
        have zp : Same H2 (upd H2 p (.lst ((pick fun k => e.any fun m => (G.getD m.toNat []).contains k).map V.int))) := fun b u z => by
          rw [upd_ne (ne_of_none z np)]
          exact z
        have zl : Same _ (upd (upd H2 p (.lst ((pick fun k => e.any fun m => (G.getD m.toNat []).contains k).map V.int))) l (.tup ((pick fun k => e.any fun m => (G.getD m.toNat []).contains k).map V.int))) := fun b u z => by
          rw [upd_ne (ne_of_none z nl)]
          exact z
        obtain ⟨acc, h1, h2, h3⟩ := (((hD.same s2).same zp).same zl).snoc (t := l) upd_same
        have ef : joinR (F.take (i + 1)) G = joinR (F.take i) G ++ [pick fun k => e.any fun m => (G.getD m.toNat []).contains k] := by
          rw [List.take_add_one, he]
          unfold joinR
          rw [List.map_append]
          rfl
        have lj : (joinR (F.take i) G).length ≤ 4 := by
          unfold joinR
          rw [List.length_map, List.length_take]
          omega
        refine ⟨acc, h1, big_of (by omega), ef ▸ h3, fun q o z => ?_⟩
        have nq : q ≠ D := fun z' => by
          rw [z', nD] at z
          cases z
        rw [upd_ne nq]
        exact zl _ _ (zp _ _ (s2 _ _ (s1 _ _ z)))
    · walk_at "go"
      rw [List.length_map, f2, List.take_length] at hD
      obtain ⟨xs, hx⟩ := hD.at_
      refine ⟨D, xs, rfl, .inl ⟨SqL.of hx, fun l nl => ?_⟩⟩
      obtain ⟨xs', hx', _, h3⟩ := hD.tup nl
      rw [hx] at hx'
      cases hx'
      exact q l _ (back s1 nl) h3 (s1.trans fun b u z => by
        rw [upd_ne (ne_of_none z nl)]
        exact z)
end
end Law

set_option Elab.async false
set_option linter.all false
set_option maxRecDepth 100000
set_option maxHeartbeats 4000000
namespace Law
open PySem PySem.Spec PySem.Calls PyProof.Rows L2 KG LamX
local macro_rules | `(tactic| walk_at "1") => `(tactic| first
  | (with_reducible refine w_var rfl ?_) | (with_reducible refine w_c ?_) | (with_reducible refine w_seq ?_) | (with_reducible refine w_asg ?_) | (with_reducible refine w_gname ?_) | (with_reducible refine w_op ?_) | (with_reducible refine w_un ?_)
  | (with_reducible refine w_add ?_) | (with_reducible refine w_sub ?_) | ((with_reducible refine' w_mod ?mo ?_); (case mo => first | assumption | decide | omega)) | (with_reducible refine w_and ?_) | (with_reducible refine w_or ?_) | (with_reducible refine w_xor ?_)
  | (with_reducible refine w_gt ?_) | (with_reducible refine w_lt ?_) | (with_reducible refine w_ge ?_) | (with_reducible refine w_le ?_) | ((with_reducible refine' w_eq ?sc ?_); (case sc => rfl)) | ((with_reducible refine' w_ne ?sc ?_); (case sc => rfl))
  | (with_reducible refine w_ret ?_) | (with_reducible refine w_next ?_) | (with_reducible refine w_ifs ?_) | (with_reducible refine w_ifx ?_) | (with_reducible refine w_test ?_) | (with_reducible refine w_tB ?_) | (with_reducible refine w_bl ?_)
  | ((with_reducible refine' w_ixL ?ixh ?ixa ?_); (case ixh => first | exact SqL.of (by assumption)); (case ixa => first | rfl | skip)) | ((with_reducible refine' w_ixT ?ixh ?ixa ?_); (case ixh => first | exact SqT.of (by assumption)); (case ixa => first | rfl | skip))
  | ((with_reducible refine' w_fld ?_)) | ((with_reducible refine' fld ?fh ?fc ?fn ?fl ?_); (case fh => assumption); (case fc => assumption); (case fn => assumption); (case fl => rfl)) | (with_reducible refine w_sfld ?_)
  | (with_reducible refine Or.inl ⟨_, rfl, ?_⟩) | (with_reducible refine w_gsub ?_) | (with_reducible refine w_andV ?_) | (with_reducible refine w_orV ?_)
  | (with_reducible refine w_nil ?_) | (with_reducible refine w_cons ?_) | (with_reducible refine w_tup ?_) | (with_reducible refine w_lst ?_) | (with_reducible refine w_and2 ?_) | (with_reducible refine w_or2 ?_) | (with_reducible refine w_not ?_) | (with_reducible refine w_cb ?_) | (with_reducible refine w_call ?_) | (with_reducible refine w_par ?_) | (with_reducible refine w_pnil ?_) | (with_reducible refine w_pcons ?_) | (with_reducible refine w_dput ?_) | (with_reducible refine w_dget ?_) | (with_reducible refine w_for ?_) | (with_reducible refine w_itup ?_) | (with_reducible refine w_ilist ?_) | (with_reducible refine w_irng ?_) | (with_reducible refine w_meth ?_) | (with_reducible refine w_make ?_) | (with_reducible refine w_makeK ?_) | (with_reducible refine w_methK ?_) | ((with_reducible refine' mth ?mh ?ml ?_); (case mh => assumption); (case ml => rfl)) | (with_reducible refine w_drop ?_))
local macro_rules | `(tactic| walk_at "go") => `(tactic| ((repeat (walk_at "1")); try dsimp only))
local macro_rules | `(tactic| walk_at "1") => `(tactic| first
  | (with_reducible refine w_notV ?_) | (with_reducible refine w_callK ?_) | (with_reducible refine w_lc ?_) | (with_reducible refine w_chain ?_) | (with_reducible refine w_neg ?_) | ((with_reducible refine' w_shr ?mo ?_); (case mo => first | assumption | omega)))
def rIntS : List V → Hp → VK → Prop := fun xs H Q => ∃ a n, xs = [.str a] ∧ PySem.intText? a = some n ∧ a.length ≤ 640 ∧ Q (.int n) H
theorem cr_intS {X : Cx} : CallR X (.type "int") rIntS := call_int_str
theorem cut_all {x : Str} (h : x.cps.size ≤ 40) : cutS x none (some 40) = x := by
  unfold cutS
  have e : HT.sIx x.length 0 none = 0 := rfl
  have e2 : HT.sIx x.length x.length (some 40) = x.cps.size := by
    show HT.sIx x.cps.size x.cps.size (some 40) = x.cps.size
    unfold HT.sIx
    simp
    omega
  rw [e, e2, List.drop_zero, Nat.sub_zero, ← Array.length_toList, List.take_length]
def Kd (r w d : Str) : Prop := r ∈ RD ∧ w ∈ WR ∧ d ∈ DV
def spEWL (C : Addr) : Sp := fun vs H Q _ => ∃ (k : Addr) (q : Bool) (r w d : Str), vs = [.ref k, .bl q] ∧ KindAt C H k r w d ∧ Kd r w d ∧ ∀ t H', H t = none → RowsAt H' t (betw q w d) → Same H H' → Q (.ref t) H'
def spEOL (C : Addr) : Sp := fun vs H Q _ => ∃ (k : Addr) (c r w d : Str), vs = [.ref k, .str c] ∧ (c = "0" ∨ c = "1" ∨ c = "r") ∧ KindAt C H k r w d ∧ Kd r w d ∧ ∀ t H', H t = none → RowsAt H' t (letR r w c) → Same H H' → Q (.ref t) H'
theorem stN_4 : ∀ w : Str, ∀ s ∈ stN w, St4 s := fun w s hs => by
  unfold stN at hs
  unfold St4
  split at hs <;> simp at hs <;> omega
theorem KindAt.st {C k : Addr} {H : Hp} {r w d : Str} (h : KindAt C H k r w d) : ∃ dx st, H k = some (.ins C dx (kf r w d st)) ∧ H st = some (.tup ((stN w).map V.int)) := by
  obtain ⟨dx, st, h1, h2⟩ := h
  exact ⟨dx, st, h1, by rw [← stN_L]; exact h2⟩
theorem KindAt.sm {C k : Addr} {H H' : Hp} {r w d : Str} (h : KindAt C H k r w d) (s : Same H H') : KindAt C H' k r w d := by
  obtain ⟨dx, st, h1, h2⟩ := h
  exact ⟨dx, st, s _ _ h1, s _ _ h2⟩
theorem ints_at {l : List Int} {i : Nat} {y : V} (hy : (l.map V.int)[i]? = some y) : ∃ s, l[i]? = some s ∧ y = .int s := by
  rw [List.getElem?_map] at hy
  cases z : l[i]? with
  | none =>
    rw [z] at hy
    cases hy
  | some c =>
    rw [z] at hy
    exact ⟨c, rfl, (Option.some.inj hy).symm⟩
theorem stN_len (w : Str) : (stN w).length ≤ 4 := by
  unfold stN
  split <;> decide
theorem map_snoc {l : List Int} {i : Nat} {s : Int} (f : Int → List Int) (h : l[i]? = some s) : (l.take (i + 1)).map f = (l.take i).map f ++ [f s] := by
  rw [List.take_add_one, h, List.map_append]
  rfl
theorem clo_fact : ∀ d ∈ DV, ∀ s ∈ S4, ([s] ++ dvI d s).Nodup ∧ (∀ k ∈ [s] ++ dvI d s, 0 ≤ k ∧ k < 4) ∧ ([s] ++ dvI d s).length ≤ 2 := by decide +kernel
section
variable {P : Program} {w : World} {K : PySem.W.Frag} {mg : Str → Option Value} {base : Heap} {C aW aI : Addr} {mc : Value}
theorem ok_cl (D : DefAt K mg "check_letters" s_check_letters ["value"]) (B : B1 mg) (hM : ∃ t, mg "MOST_LETTERS" = some (.int 40 t)) (hL : ∃ t, mg "LETTERS" = some (.str "01r" t)) : Cal P w K mg base 1 "check_letters" spCL := by
  refine D.cal sc_check_letters (fun vs H Q E h => ?_) (fun f cdv A outer s H vs Q E rm gd h => ?_)
  · obtain ⟨x, rfl, _⟩ := h
    rfl
  · obtain ⟨x, rfl, hx, hc, q⟩ := h
    obtain ⟨tM, gM⟩ := hM
    obtain ⟨tL, gL⟩ := hL
    have big : x.length ≤ sizeLine := Nat.le_trans (show x.cps.size ≤ 40 from hx) (by decide)
    refine ⟨_, (pss_cons (ps_if (pt_not (pt_val (pe_callB call_isi (by rfl) B.g_isinstance (by decide +kernel) (pa_cons (pv 0) (pa_cons (pe_bltn (v := .ty "str") rfl B.g_str (by decide +kernel) rfl) pa_nil)))))
      (pss_one ps_never)
      pss_nil)
    (pss_cons (ps_for PassesOwn.never rfl (pi_enumS (by rfl) B.g_enumerate (pa_cons (pe_slice sl_str (pv 0) po_none (po_some (pe_glob (v := .int 40) rfl gM ⟨_, rfl⟩))) pa_nil)) (pg_tup rfl (pgs_cons (pg_name (i := 1) sc_check_letters.nd rfl (Or.inl rfl)) (pgs_cons (pg_name (i := 2) sc_check_letters.nd rfl (Or.inl rfl)) pgs_nil)))
      (pss_one (ps_if (pt_cmpR op_notIn_sign (pv 2) (pe_glob (v := .str "01r") rfl gL ⟨_, rfl⟩) rfl)
        (pss_one ps_never)
        pss_nil)))
    (pss_one (ps_if (pt_cmpR op_gt (pe_callB call_len_str (by rfl) B.g_len (by decide +kernel) (pa_cons (pv 0) pa_nil)) (pe_glob (v := .int 40) rfl gM ⟨_, rfl⟩) (nomark _))
      (pss_one ps_never)
      pss_nil)))), ?_⟩
    walk_at "go"
    refine ⟨.str x, .ty "str", .type "str", .type "str", true, rfl, .ty _, .base (.str x), if_pos (beq_self_eq_true _), ?_⟩
    walk_at "go"
    refine iteF ?_
    walk_at "go"
    unfold iEnumS
    walk_at "go"
    unfold tSl
    walk_at "go"
    unfold tNoPart tPart
    walk_at "go"
    refine ⟨40, rfl, ?_⟩
    refine ⟨x, rfl, big, ?_⟩
    rw [cut_all hx]
    walk_at "go"
    refine ⟨x, rfl, ?_⟩
    refine ⟨fun i m σ H' => m = x.cps.size - i ∧ i ≤ x.cps.size ∧ (∃ v1 v2, σ = [some (.str x), v1, v2]) ∧ Same H H', ⟨_, rfl, Nat.zero_le _, ⟨none, none, rfl⟩, fun _ _ z => z⟩, ?_⟩
    rintro i m σ H1 ⟨rfl, hi, ⟨v1, v2, rfl⟩, s1⟩
    rcases Nat.lt_or_ge i x.cps.size with lt | ge
    · refine .inr ⟨lt, fun σ' H' => (∃ v1 v2, σ' = [some (.str x), v1, v2]) ∧ Same H H', fun σ' H' ⟨e, s⟩ => ⟨_, by omega, rfl, lt, e, s⟩, fun y H2 ⟨T2, c, ey, nT, eH, ec⟩ => ?_⟩
      subst ey
      subst eH
      have sT : Same H1 (upd H1 T2 (.tup [.int (i : Nat), .str ⟨#[c]⟩])) := fun b u z => by
        rw [upd_ne (ne_of_none z nT)]
        exact z
      refine ⟨T2, _, rfl, SqT.of upd_same, rfl, _, _, rfl, _, _, rfl, rfl, ?_⟩
      walk_at "go"
      have hcm : c ∈ ("01r" : Str).cps.toList := hc c (List.mem_of_getElem? (by rw [Array.getElem?_toList]; exact ec))
      refine ⟨c, "01r", rfl, rfl, ?_⟩
      rw [decide_eq_true hcm]
      refine ⟨false, rfl, iteF ?_⟩
      walk_at "go"
      exact ⟨⟨_, _, rfl⟩, s1.trans sT⟩
    · obtain rfl : i = x.cps.size := by omega
      refine .inl ⟨rfl, ?_⟩
      walk_at "go"
      refine ⟨x, rfl, big, ?_⟩
      walk_at "go"
      have nz : decide ((40 : Int) < (x.length : Int)) = false := decide_eq_false (by show ¬ (40 : Int) < (x.cps.size : Int); omega)
      rw [nz]
      refine iteF ?_
      walk_at "go"
      exact q H1 s1
theorem ok_ewl (D : DefAt K mg "ends_without_letters" s_ends_without_letters ["kind", "quiet"]) (B : B1 mg) (T : KT K w mg C aW aI mc) {f5 : Addr} (mDE : Met P w K mg base 1 C "deeds" f5 (spDE C)) : Cal P w K mg base 2 "ends_without_letters" (spEWL C) := by
  refine D.cal (k := 1) sc_ends_without_letters (fun vs H Q E h => ?_) (fun f cdv A outer s H vs Q E rm gd h => ?_)
  · obtain ⟨k, qt, r, wr, d, rfl, _⟩ := h
    rfl
  · obtain ⟨k, qt, r, wr, d, rfl, hk, kd, q⟩ := h
    obtain ⟨dx, st, hk1, hst⟩ := hk.st
    have cl := T.cl
    have nS := T.nS
    refine ⟨_, (pss_cons (ps_if (pt_val (pv 1))
      (pss_one (ps_ret (pe_callTy call_tuple_of (by rfl) B.g_tuple (by decide +kernel) (pa_cons (pe_lc (own := [("state", 2)]) (g := (gName 2)) (by rfl) sc_ends_without_letters.nd (pi_tup (pe_fld (pv 0) rfl)) (blkOk_by (own := [("state", 2)]) (N := ["kind", "quiet", "state"]) (sc := defScope s_ends_without_letters) (by decide +kernel)) (fun _ _ _ _ _ => (pg_name (i := 2) sc_ends_without_letters.nd rfl (Or.inl rfl))) (fun _ _ _ _ _ => pts_nil) (fun _ _ _ _ _ => (pe_tup (pa_cons (pv 2) pa_nil)))) pa_nil))))
      pss_nil)
    (pss_one (ps_ret (pe_callTy call_tuple_of (by rfl) B.g_tuple (by decide +kernel) (pa_cons (pe_lc (own := [("state", 2)]) (g := (gName 2)) (by rfl) sc_ends_without_letters.nd (pi_tup (pe_fld (pv 0) rfl)) (blkOk_by (own := [("state", 2)]) (N := ["kind", "quiet", "state"]) (sc := defScope s_ends_without_letters) (by decide +kernel)) (fun _ _ _ _ _ => (pg_name (i := 2) sc_ends_without_letters.nd rfl (Or.inl rfl))) (fun _ _ _ _ _ => pts_nil) (fun _ _ _ _ _ => (show PE _ _ (tCB (rTupOf K) (tCons (tCB (rSorted K) (tCons (tOp rCat (tLst (tCons (tVar 2) tNil)) (tCB (rListOf K) (tCons (tMeth C "deeds" (spDE C) [] E0 (tVar 0) (tCons (tVar 2) tNil)) tNil))) tNil)) tNil)) from pe_callTy (T := "tuple") (r := rTupOf K) cr_tupOf (by rfl) B.g_tuple (by decide +kernel) (pa_cons (pe_callB (id := "sorted") (r := rSorted K) cr_sorted (by rfl) B.g_sorted (by decide +kernel) (pa_cons (pe_op (r := rCat) op_cat (pe_lst (pa_cons (pv 2) pa_nil)) (pe_callTy (T := "list") (r := rListOf K) cr_listOf (by rfl) B.g_list (by decide +kernel) (pa_cons (pm mDE T.cl rm (by decide) gd (pv 0) (pa_cons (pv 2) pa_nil)) pa_nil))) pa_nil)) pa_nil)))) pa_nil))))), ?_⟩
    have done : ∀ (D : Addr) (f : Int → List Int) (H1 : Hp), betw qt wr d = (stN wr).map f → RowsL H1 D ((stN wr).map f) → H D = none → Same H H1 → rTupOf K [.ref D] H1 Q := fun D f H1 e hD nD s1 => by
      obtain ⟨xs, hx⟩ := hD.at_
      refine ⟨D, xs, rfl, .inl ⟨SqL.of hx, fun l nl => ?_⟩⟩
      obtain ⟨xs', hx', _, h3⟩ := hD.tup nl
      rw [hx] at hx'
      cases hx'
      exact q l _ (back s1 nl) (e ▸ h3) (s1.trans fun b u z => by
        rw [upd_ne (ne_of_none z nl)]
        exact z)
    cases qt with
    | true =>
      walk_at "go"
      refine iteT ?_
      walk_at "go"
      refine over_t (SqT.of hst) ?_
      intro D nD
      have zD : Same H (upd H D (.lst [])) := fun b u e => by
        rw [upd_ne (ne_of_none e nD)]
        exact e
      refine lc_tup (K := K) (a := st) (xs := (stN wr).map V.int) (fun i H' => RowsL H' D (((stN wr).take i).map fun s => [s]) ∧ Same H H') ⟨.nil upd_same, zD⟩ (fun i H' _ ⟨_, s⟩ => SqT.of (s _ _ hst)) (fun i y H1 hy ⟨hD, s1⟩ => ?_) (fun H1 ⟨hD, s1⟩ => ?_)
      · obtain ⟨s, hs, rfl⟩ := ints_at hy
        walk_at "go"
        refine ⟨rfl, ?_⟩
        try unfold tYes
        refine iteT ?_
        walk_at "go"
        refine new (show 1 ≤ sizeLine by decide) fun t H2 nt ht s2 => ?_
        obtain ⟨acc, h1, h2, h3⟩ := (hD.same s2).snoc (row := [s]) ht
        have lt := stN_len wr
        rw [List.length_map, List.length_take] at h2
        refine ⟨acc, h1, big_of (by omega), by rw [map_snoc _ hs]; exact h3, fun b u z => ?_⟩
        rw [upd_ne (ne_of_none z nD)]
        exact s2 _ _ (s1 _ _ z)
      · rw [List.length_map, List.take_length] at hD
        walk_at "go"
        exact done D (fun s => [s]) H1 (by unfold betw; simp) hD nD s1
    | false =>
      walk_at "go"
      refine iteF ?_
      walk_at "go"
      refine over_t (SqT.of hst) ?_
      intro D nD
      have zD : Same H (upd H D (.lst [])) := fun b u e => by
        rw [upd_ne (ne_of_none e nD)]
        exact e
      refine lc_tup (K := K) (a := st) (xs := (stN wr).map V.int) (fun i H' => RowsL H' D (((stN wr).take i).map (clo d)) ∧ Same H H') ⟨.nil upd_same, zD⟩ (fun i H' _ ⟨_, s⟩ => SqT.of (s _ _ hst)) (fun i y H1 hy ⟨hD, s1⟩ => ?_) (fun H1 ⟨hD, s1⟩ => ?_)
      · obtain ⟨s, hs, rfl⟩ := ints_at hy
        have s4 := stN_4 wr s (List.mem_of_getElem? hs)
        have sS : s ∈ S4 := by
          rw [s4_mem]
          unfold St4 at s4
          omega
        obtain ⟨c1, c2, c3⟩ := clo_fact d kd.2.2 s sS
        walk_at "go"
        refine ⟨rfl, ?_⟩
        try unfold tYes
        refine iteT ?_
        walk_at "go"
        refine new (show 1 ≤ sizeLine by decide) fun t H2 nt ht s2 => ?_
        walk_at "go"
        refine mth (s2 _ _ (s1 _ _ hk1)) rfl ?_
        walk_at "go"
        refine ⟨k, r, wr, d, s, rfl, (hk.sm s1).sm s2, kd.2.2, s4, fun t3 H3 n3 h3 s3 => ?_⟩
        walk_at "go"
        refine ⟨t3, _, rfl, .inr (SqT.of h3), fun l4 n4 => ?_⟩
        have z4 : Same H3 (upd H3 l4 (.lst (dvF d s))) := fun b u z => by
          rw [upd_ne (ne_of_none z n4)]
          exact z
        have h4 : upd H3 l4 (.lst (dvF d s)) l4 = some (.lst ((dvI d s).map V.int)) := by rw [upd_same, dvI_V]
        show rCat (.ref t) (.ref l4) (upd H3 l4 (.lst (dvF d s))) _
        generalize upd H3 l4 (.lst (dvF d s)) = H4 at z4 h4
        refine w_cat (ys := ([s] ++ dvI d s).map V.int) (z4 _ _ (s3 _ _ ht)) h4 (by rw [List.map_append]; rfl) (by rw [List.length_map]; exact Nat.le_trans c3 (by decide)) fun p5 H5 n5 h5 s5 => ?_
        walk_at "go"
        refine ⟨p5, _, rfl, SqL.of h5, by omega, fun ns p6 pm pw n6 => ?_⟩
        have ens : ns = clo d s := sorted_pick pm pw c1 fun k => by
          rw [List.mem_append, List.mem_singleton, Bool.or_eq_true, decide_eq_true_eq, List.contains_iff_mem]
          constructor
          · exact fun z => ⟨c2 k (by rcases z with z | z <;> simp [z]), z⟩
          · exact fun z => z.2
        subst ens
        walk_at "go"
        refine ⟨p6, _, rfl, .inl ⟨SqL.of upd_same, fun l7 n7 => ?_⟩⟩
        have z6 : Same H5 (upd H5 p6 (.lst ((clo d s).map V.int))) := fun b u z => by
          rw [upd_ne (ne_of_none z n6)]
          exact z
        have z7 : Same _ (upd (upd H5 p6 (.lst ((clo d s).map V.int))) l7 (.tup ((clo d s).map V.int))) := fun b u z => by
          rw [upd_ne (ne_of_none z n7)]
          exact z
        have sA : Same H1 _ := s2.trans (s3.trans (z4.trans (s5.trans (z6.trans z7))))
        obtain ⟨acc, h1, h2, h3'⟩ := (hD.same sA).snoc (row := clo d s) upd_same
        have lt := stN_len wr
        rw [List.length_map, List.length_take] at h2
        refine ⟨acc, h1, big_of (by omega), by rw [map_snoc _ hs]; exact h3', fun b u z => ?_⟩
        rw [upd_ne (ne_of_none z nD)]
        exact sA _ _ (s1 _ _ z)
      · rw [List.length_map, List.take_length] at hD
        walk_at "go"
        exact done D (clo d) H1 (by unfold betw; simp) hD nD s1
end
end Law

set_option Elab.async false
set_option linter.all false
set_option maxRecDepth 100000
set_option maxHeartbeats 4000000
namespace Law
open PySem PySem.Spec PySem.Calls PyProof.Rows L2 KG LamX
local macro_rules | `(tactic| walk_at "1") => `(tactic| first
  | (with_reducible refine w_var rfl ?_) | (with_reducible refine w_c ?_) | (with_reducible refine w_seq ?_) | (with_reducible refine w_asg ?_) | (with_reducible refine w_gname ?_) | (with_reducible refine w_op ?_) | (with_reducible refine w_un ?_)
  | (with_reducible refine w_add ?_) | (with_reducible refine w_sub ?_) | ((with_reducible refine' w_mod ?mo ?_); (case mo => first | assumption | decide | omega)) | (with_reducible refine w_and ?_) | (with_reducible refine w_or ?_) | (with_reducible refine w_xor ?_)
  | (with_reducible refine w_gt ?_) | (with_reducible refine w_lt ?_) | (with_reducible refine w_ge ?_) | (with_reducible refine w_le ?_) | ((with_reducible refine' w_eq ?sc ?_); (case sc => rfl)) | ((with_reducible refine' w_ne ?sc ?_); (case sc => rfl))
  | (with_reducible refine w_ret ?_) | (with_reducible refine w_next ?_) | (with_reducible refine w_ifs ?_) | (with_reducible refine w_ifx ?_) | (with_reducible refine w_test ?_) | (with_reducible refine w_tB ?_) | (with_reducible refine w_bl ?_)
  | ((with_reducible refine' w_ixL ?ixh ?ixa ?_); (case ixh => first | exact SqL.of (by assumption)); (case ixa => first | rfl | skip)) | ((with_reducible refine' w_ixT ?ixh ?ixa ?_); (case ixh => first | exact SqT.of (by assumption)); (case ixa => first | rfl | skip))
  | ((with_reducible refine' w_fld ?_)) | ((with_reducible refine' fld ?fh ?fc ?fn ?fl ?_); (case fh => assumption); (case fc => assumption); (case fn => assumption); (case fl => rfl)) | (with_reducible refine w_sfld ?_)
  | (with_reducible refine Or.inl ⟨_, rfl, ?_⟩) | (with_reducible refine w_gsub ?_) | (with_reducible refine w_andV ?_) | (with_reducible refine w_orV ?_)
  | (with_reducible refine w_nil ?_) | (with_reducible refine w_cons ?_) | (with_reducible refine w_tup ?_) | (with_reducible refine w_lst ?_) | (with_reducible refine w_and2 ?_) | (with_reducible refine w_or2 ?_) | (with_reducible refine w_not ?_) | (with_reducible refine w_cb ?_) | (with_reducible refine w_call ?_) | (with_reducible refine w_par ?_) | (with_reducible refine w_pnil ?_) | (with_reducible refine w_pcons ?_) | (with_reducible refine w_dput ?_) | (with_reducible refine w_dget ?_) | (with_reducible refine w_for ?_) | (with_reducible refine w_itup ?_) | (with_reducible refine w_ilist ?_) | (with_reducible refine w_irng ?_) | (with_reducible refine w_meth ?_) | (with_reducible refine w_make ?_) | (with_reducible refine w_makeK ?_) | (with_reducible refine w_methK ?_) | ((with_reducible refine' mth ?mh ?ml ?_); (case mh => assumption); (case ml => rfl)) | (with_reducible refine w_drop ?_))
local macro_rules | `(tactic| walk_at "go") => `(tactic| ((repeat (walk_at "1")); try dsimp only))
local macro_rules | `(tactic| walk_at "1") => `(tactic| first
  | (with_reducible refine w_notV ?_) | (with_reducible refine w_callK ?_) | (with_reducible refine w_lc ?_) | (with_reducible refine w_chain ?_) | (with_reducible refine w_neg ?_) | ((with_reducible refine' w_shr ?mo ?_); (case mo => first | assumption | omega)))
abbrev ef (k t : Addr) : List (Str × V) := [("kind", .ref k), ("ends", .ref t)]
def EffAt (C CE : Addr) (H : Hp) (e k : Addr) (r w d : Str) (F : List (List Int)) : Prop := ∃ dx t, H e = some (.ins CE dx (ef k t)) ∧ KindAt C H k r w d ∧ RowsAt H t F
theorem EffAt.sm {C CE e k : Addr} {H H' : Hp} {r w d : Str} {F : List (List Int)} (h : EffAt C CE H e k r w d F) (s : Same H H') : EffAt C CE H' e k r w d F := by
  obtain ⟨dx, t, h1, h2, h3⟩ := h
  exact ⟨dx, t, s _ _ h1, h2.sm s, h3.same s⟩
def one (c : Nat) : Str := ⟨#[c]⟩
def stepR (q : Bool) (r w d : Str) (F : List (List Int)) (c : Nat) : List (List Int) := joinR (joinR F (letR r w (one c))) (betw q w d)
def ofR (q : Bool) (r w d : Str) (l : List Nat) : List (List Int) := l.foldl (stepR q r w d) (betw q w d)
def rwB (n : Nat) (F : List (List Int)) : Bool := (F.length == n) && F.all fun e => (e.all fun k => decide (0 ≤ k ∧ k < n)) && decide (e.length ≤ 4)
theorem rw_of {n : Nat} {F : List (List Int)} (h : rwB n F = true) : Rw n F := by
  unfold rwB at h
  rw [Bool.and_eq_true] at h
  have h2 := List.all_eq_true.mp h.2
  refine ⟨by simpa using h.1, fun e he k hk => ?_, fun e he => ?_⟩
  · have := h2 e he
    rw [Bool.and_eq_true] at this
    exact of_decide_eq_true (List.all_eq_true.mp this.1 k hk)
  · have := h2 e he
    rw [Bool.and_eq_true] at this
    exact of_decide_eq_true this.2
theorem betw_rw0 : ∀ w ∈ WR, ∀ d ∈ DV, rwB (stN w).length (betw true w d) = true ∧ rwB (stN w).length (betw false w d) = true := by decide +kernel
theorem betw_rw {q : Bool} {w d : Str} (hw : w ∈ WR) (hd : d ∈ DV) : Rw (stN w).length (betw q w d) := rw_of (by
  cases q
  · exact (betw_rw0 w hw d hd).2
  · exact (betw_rw0 w hw d hd).1)
theorem letR_rw0 : ∀ r ∈ RD, ∀ w ∈ WR, rwB (stN w).length (letR r w "0") = true ∧ rwB (stN w).length (letR r w "1") = true ∧ rwB (stN w).length (letR r w "r") = true := by decide +kernel
theorem letR_rw {r w c : Str} (hr : r ∈ RD) (hw : w ∈ WR) (hc : c = "0" ∨ c = "1" ∨ c = "r") : Rw (stN w).length (letR r w c) := rw_of (by
  obtain ⟨a, b, e⟩ := letR_rw0 r hr w hw
  rcases hc with rfl | rfl | rfl
  · exact a
  · exact b
  · exact e)
theorem sign_of {c : Nat} (h : c ∈ ("01r" : Str).cps.toList) : one c = "0" ∨ one c = "1" ∨ one c = "r" := by
  have e : ("01r" : Str).cps.toList = [48, 49, 114] := by decide +kernel
  rw [e] at h
  simp only [List.mem_cons, List.not_mem_nil, or_false] at h
  rcases h with rfl | rfl | rfl
  · exact .inl (by decide +kernel)
  · exact .inr (.inl (by decide +kernel))
  · exact .inr (.inr (by decide +kernel))
def Lets (x : Str) : Prop := x.cps.size ≤ 40 ∧ ∀ c ∈ x.cps.toList, c ∈ ("01r" : Str).cps.toList
theorem ofR_rw {q : Bool} {r w d : Str} (kd : Kd r w d) : ∀ l : List Nat, (∀ c ∈ l, c ∈ ("01r" : Str).cps.toList) → ∀ F, Rw (stN w).length F → Rw (stN w).length (l.foldl (stepR q r w d) F)
  | [], _, F, h => h
  | c :: l, hl, F, h => ofR_rw kd l (fun x hx => hl x (List.mem_cons_of_mem _ hx)) _ ((h.joinR (letR_rw kd.1 kd.2.1 (sign_of (hl c List.mem_cons_self)))).joinR (betw_rw kd.2.1 kd.2.2))
theorem ofR_snoc (q : Bool) (r w d : Str) (l : List Nat) (c : Nat) : ofR q r w d (l ++ [c]) = stepR q r w d (ofR q r w d l) c := by
  unfold ofR
  rw [List.foldl_append]
  rfl
def spEI (CE : Addr) : Sp := fun vs H Q _ => ∃ (x dx k t : Addr), vs = [.ref x, .ref k, .ref t] ∧ H x = some (.ins CE dx []) ∧ ∀ H', H' x = some (.ins CE dx (ef k t)) → (∀ b, b ≠ x → H' b = H b) → Q .non H'
def spOf (C CE : Addr) : Sp := fun vs H Q _ => ∃ (k : Addr) (x r w d : Str) (q : Bool), vs = [.ref CE, .ref k, .str x, .bl q] ∧ Lets x ∧ KindAt C H k r w d ∧ Kd r w d ∧ ∀ e H', H e = none → EffAt C CE H' e k r w d (ofR q r w d x.cps.toList) → Same H H' → Q (.ref e) H'
def spECall (C CE : Addr) : Sp := fun vs H Q _ => ∃ (e k : Addr) (r w d : Str) (F : List (List Int)) (s : Nat) (row : List Int), vs = [.ref e, .int s] ∧ EffAt C CE H e k r w d F ∧ F[s]? = some row ∧ ∀ a, H a = some (.tup (row.map V.int)) → Q (.ref a) H
def rowsD (F : List (List Int)) : PyData := .tuple (F.map fun r => .tuple (r.map PyData.int))
def spEE (C CE : Addr) : Sp := fun vs H Q _ => ∃ (e e' k k' : Addr) (r w d r' w' d' : Str) (F F' : List (List Int)), vs = [.ref e, .ref e'] ∧ EffAt C CE H e k r w d F ∧ EffAt C CE H e' k' r' w' d' F' ∧ Q (.bl ((decide (r = r') && decide (w = w') && decide (d = d')) && PyData.eqv (rowsD F) (rowsD F'))) H
structure ET (K : PySem.W.Frag) (mg : Str → Option Value) (CE : Addr) : Prop where
  g_Effect : mg "Effect" = some (.ref CE)
  cl : Cls K CE
  nK : NoAttr K CE "kind"
  nE : NoAttr K CE "ends"
  isC : PySem.W.findIn K (.ref CE) "__class__" = some (some (.builtin "object.__class__"))
  isM : PySem.W.mroIn K CE (.type "object") = some true
theorem sh_rows (F : List (List Int)) : SeqAt.shaped (rowsD F) = true := by
  have h1 : ∀ ns : List Int, PyData.canLayAll0 (ns.map PyData.int) = true := fun ns => by
    induction ns with
    | nil => simp [PyData.canLayAll0]
    | cons a as ih => simp only [List.map_cons, PyData.canLayAll0, PyData.canLay0, ih, Bool.and_self]
  have h2 : ∀ ns : List Int, PyData.depthAll (ns.map PyData.int) = 0 := fun ns => by
    induction ns with
    | nil => simp [PyData.depthAll]
    | cons a as ih => simp only [List.map_cons, PyData.depthAll, PyData.depth, ih, Nat.max_self]
  have g1 : ∀ F : List (List Int), PyData.canLayAll0 (F.map fun r => .tuple (r.map PyData.int)) = true := fun F => by
    induction F with
    | nil => simp [PyData.canLayAll0]
    | cons a as ih => simp only [List.map_cons, PyData.canLayAll0, PyData.canLay0, h1, ih, Bool.and_self]
  have g2 : ∀ F : List (List Int), PyData.depthAll (F.map fun r => .tuple (r.map PyData.int)) ≤ 1 := fun F => by
    induction F with
    | nil => simp [PyData.depthAll]
    | cons a as ih =>
      simp only [List.map_cons, PyData.depthAll, PyData.depth, h2]
      omega
  unfold SeqAt.shaped rowsD
  rw [Bool.and_eq_true]
  refine ⟨by simp only [PyData.canLay0, g1], decide_eq_true ?_⟩
  have := g2 F
  simp only [PyData.depth]
  omega
theorem dp_intsT {K : PySem.W.Frag} {H : Hp} : ∀ ns : List Int, DpAll K H (ns.map V.int) (ns.map PyData.int)
  | [] => .nil
  | n :: ns => .cons (.int n) (dp_intsT ns)
theorem dp_rows {K : PySem.W.Frag} {H : Hp} {t : Addr} {F : List (List Int)} (h : RowsAt H t F) : Dp K H (.ref t) (rowsD F) := by
  obtain ⟨ts, h1, h2, h3⟩ := h
  refine .tup (SqT.of h1) ?_
  have : ∀ (ts : List Addr) (F : List (List Int)), ts.length = F.length → (∀ (j : Nat) (a : Addr) (r : List Int), ts[j]? = some a → F[j]? = some r → H a = some (.tup (r.map V.int))) → DpAll K H (ts.map V.ref) (F.map fun r => .tuple (r.map PyData.int)) := by
    intro ts
    induction ts with
    | nil =>
      intro F hl _
      cases F with
      | nil => exact .nil
      | cons _ _ => cases hl
    | cons a ts ih =>
      intro F hl h
      cases F with
      | nil => cases hl
      | cons r F =>
        exact .cons (.tup (SqT.of (h 0 a r rfl rfl)) (dp_intsT r)) (ih F (Nat.succ.inj hl) fun j b s e1 e2 => h (j + 1) b s e1 e2)
  exact this ts F h2 h3
section
variable {P : Program} {w : World} {K : PySem.W.Frag} {mg : Str → Option Value} {base : Heap} {C CE aW aI : Addr} {mc : Value}
theorem ok_eol (D : DefAt K mg "ends_of_letter" s_ends_of_letter ["kind", "letter"]) (B : B1 mg) (T : KT K w mg C aW aI mc) {f2 f4 : Addr} (mAR : Met P w K mg base 1 C "after_read" f2 (spAR C)) (mAW : Met P w K mg base 2 C "after_write" f4 (spAW C)) : Cal P w K mg base 3 "ends_of_letter" (spEOL C) := by
  refine D.cal (k := 2) sc_ends_of_letter (fun vs H Q E h => ?_) (fun f cdv A outer s H vs Q E rm gd h => ?_)
  · obtain ⟨k, c, r, wr, d, rfl, _⟩ := h
    rfl
  · obtain ⟨k, c, r, wr, d, rfl, hc, hk, kd, q⟩ := h
    obtain ⟨dx, st, hk1, hst⟩ := hk.st
    have cl := T.cl
    have nS := T.nS
    refine ⟨_, (pss_cons (ps_if (pt_cmpR op_eq (pv 1) pe_str (nomark _))
      (pss_one (ps_ret (pe_callTy call_tuple_of (by rfl) B.g_tuple (by decide +kernel) (pa_cons (pe_lc (own := [("state", 2)]) (g := (gName 2)) (by rfl) sc_ends_of_letter.nd (pi_tup (pe_fld (pv 0) rfl)) (blkOk_by (own := [("state", 2)]) (N := ["kind", "letter", "state"]) (sc := defScope s_ends_of_letter) (by decide +kernel)) (fun _ _ _ _ _ => (pg_name (i := 2) sc_ends_of_letter.nd rfl (Or.inl rfl))) (fun _ _ _ _ _ => pts_nil) (fun _ _ _ _ _ => (show PE _ _ (tTup (tCons (tMeth C "after_read" (spAR C) [] E0 (tVar 0) (tCons (tVar 2) tNil)) tNil)) from pe_tup (pa_cons (pm mAR T.cl rm (by decide) gd (pv 0) (pa_cons (pv 2) pa_nil)) pa_nil)))) pa_nil))))
      pss_nil)
    (pss_one (ps_ret (pe_callTy call_tuple_of (by rfl) B.g_tuple (by decide +kernel) (pa_cons (pe_lc (own := [("state", 2)]) (g := (gName 2)) (by rfl) sc_ends_of_letter.nd (pi_tup (pe_fld (pv 0) rfl)) (blkOk_by (own := [("state", 2)]) (N := ["kind", "letter", "state"]) (sc := defScope s_ends_of_letter) (by decide +kernel)) (fun _ _ _ _ _ => (pg_name (i := 2) sc_ends_of_letter.nd rfl (Or.inl rfl))) (fun _ _ _ _ _ => pts_nil) (fun _ _ _ _ _ => (show PE _ _ (tTup (tCons (tMeth C "after_write" (spAW C) [] E0 (tVar 0) (tCons (tVar 2) (tCons (tCB rIntS (tCons (tVar 1) tNil)) tNil))) tNil)) from pe_tup (pa_cons (pm mAW T.cl rm (by decide) gd (pv 0) (pa_cons (pv 2) (pa_cons (pe_callTy (T := "int") (r := rIntS) cr_intS (by rfl) B.g_int (by decide +kernel) (pa_cons (pv 1) pa_nil)) pa_nil))) pa_nil)))) pa_nil))))), ?_⟩
    have done : ∀ (D : Addr) (f : Int → List Int) (H1 : Hp), letR r wr c = (stN wr).map f → RowsL H1 D ((stN wr).map f) → H D = none → Same H H1 → rTupOf K [.ref D] H1 Q := fun D f H1 e hD nD s1 => by
      obtain ⟨xs, hx⟩ := hD.at_
      refine ⟨D, xs, rfl, .inl ⟨SqL.of hx, fun l nl => ?_⟩⟩
      obtain ⟨xs', hx', _, h3⟩ := hD.tup nl
      rw [hx] at hx'
      cases hx'
      exact q l _ (back s1 nl) (e ▸ h3) (s1.trans fun b u z => by
        rw [upd_ne (ne_of_none z nl)]
        exact z)
    have turn : ∀ {D : Addr} {f : Int → List Int} {i : Nat} {s v : Int} {H1 : Hp}, H D = none → RowsL H1 D (((stN wr).take i).map f) → Same H H1 → (stN wr)[i]? = some s → f s = [v] →
        New HO.tup (fun y H4 => ∃ acc, H4 D = some (.lst acc) ∧ acc.length < sizeLine ∧ (RowsL (upd H4 D (.lst (acc ++ [y]))) D (((stN wr).take (i + 1)).map f) ∧ Same H (upd H4 D (.lst (acc ++ [y]))))) [.int v] H1 := fun {D f i s v H1} nD hD s1 hs e => by
      refine new (show 1 ≤ sizeLine by decide) fun t H2 nt ht s2 => ?_
      obtain ⟨acc, h1, h2, h3⟩ := (hD.same s2).snoc (row := [v]) ht
      have lt := stN_len wr
      rw [List.length_map, List.length_take] at h2
      refine ⟨acc, h1, big_of (by omega), by rw [map_snoc _ hs, e]; exact h3, fun b u z => ?_⟩
      rw [upd_ne (ne_of_none z nD)]
      exact s2 _ _ (s1 _ _ z)
    have wrt : ∀ (b : Int), (b = 0 ∨ b = 1) → PySem.intText? c = some b → c.length ≤ 640 → letR r wr c = (stN wr).map (fun s => [awF wr s b]) → True := fun _ _ _ _ _ => trivial
    rcases hc with rfl | rfl | rfl
    · walk_at "go"
      refine ite2 (fun h => absurd h (by decide)) fun _ => ?_
      walk_at "go"
      refine over_t (SqT.of hst) ?_
      intro D nD
      have zD : Same H (upd H D (.lst [])) := fun b u e => by
        rw [upd_ne (ne_of_none e nD)]
        exact e
      refine lc_tup (K := K) (a := st) (xs := (stN wr).map V.int) (fun i H' => RowsL H' D (((stN wr).take i).map fun s => [awF wr s 0]) ∧ Same H H') ⟨.nil upd_same, zD⟩ (fun i H' _ ⟨_, s⟩ => SqT.of (s _ _ hst)) (fun i y H1 hy ⟨hD, s1⟩ => ?_) (fun H1 ⟨hD, s1⟩ => ?_)
      · obtain ⟨s, hs, rfl⟩ := ints_at hy
        walk_at "go"
        refine ⟨rfl, ?_⟩
        try unfold tYes
        refine iteT ?_
        walk_at "go"
        refine mth (s1 _ _ hk1) rfl ?_
        walk_at "go"
        refine ⟨"0", 0, rfl, by decide +kernel, by decide, ?_⟩
        walk_at "go"
        refine ⟨k, r, wr, d, s, 0, rfl, hk.sm s1, kd.2.1, stN_4 wr s (List.mem_of_getElem? hs), .inl rfl, ?_⟩
        walk_at "go"
        exact turn nD hD s1 hs rfl
      · rw [List.length_map, List.take_length] at hD
        walk_at "go"
        exact done D _ H1 (by unfold letR; rfl) hD nD s1
    · walk_at "go"
      refine ite2 (fun h => absurd h (by decide)) fun _ => ?_
      walk_at "go"
      refine over_t (SqT.of hst) ?_
      intro D nD
      have zD : Same H (upd H D (.lst [])) := fun b u e => by
        rw [upd_ne (ne_of_none e nD)]
        exact e
      refine lc_tup (K := K) (a := st) (xs := (stN wr).map V.int) (fun i H' => RowsL H' D (((stN wr).take i).map fun s => [awF wr s 1]) ∧ Same H H') ⟨.nil upd_same, zD⟩ (fun i H' _ ⟨_, s⟩ => SqT.of (s _ _ hst)) (fun i y H1 hy ⟨hD, s1⟩ => ?_) (fun H1 ⟨hD, s1⟩ => ?_)
      · obtain ⟨s, hs, rfl⟩ := ints_at hy
        walk_at "go"
        refine ⟨rfl, ?_⟩
        try unfold tYes
        refine iteT ?_
        walk_at "go"
        refine mth (s1 _ _ hk1) rfl ?_
        walk_at "go"
        refine ⟨"1", 1, rfl, by decide +kernel, by decide, ?_⟩
        walk_at "go"
        refine ⟨k, r, wr, d, s, 1, rfl, hk.sm s1, kd.2.1, stN_4 wr s (List.mem_of_getElem? hs), .inr rfl, ?_⟩
        walk_at "go"
        exact turn nD hD s1 hs rfl
      · rw [List.length_map, List.take_length] at hD
        walk_at "go"
        exact done D _ H1 (by unfold letR; rfl) hD nD s1
    · walk_at "go"
      refine ite2 (fun _ => ?_) fun h => absurd (by decide) h
      walk_at "go"
      refine over_t (SqT.of hst) ?_
      intro D nD
      have zD : Same H (upd H D (.lst [])) := fun b u e => by
        rw [upd_ne (ne_of_none e nD)]
        exact e
      refine lc_tup (K := K) (a := st) (xs := (stN wr).map V.int) (fun i H' => RowsL H' D (((stN wr).take i).map fun s => [rdF r s]) ∧ Same H H') ⟨.nil upd_same, zD⟩ (fun i H' _ ⟨_, s⟩ => SqT.of (s _ _ hst)) (fun i y H1 hy ⟨hD, s1⟩ => ?_) (fun H1 ⟨hD, s1⟩ => ?_)
      · obtain ⟨s, hs, rfl⟩ := ints_at hy
        walk_at "go"
        refine ⟨rfl, ?_⟩
        try unfold tYes
        refine iteT ?_
        walk_at "go"
        refine mth (s1 _ _ hk1) rfl ?_
        walk_at "go"
        refine ⟨k, r, wr, d, s, rfl, hk.sm s1, ?_⟩
        walk_at "go"
        exact turn nD hD s1 hs rfl
      · rw [List.length_map, List.take_length] at hD
        walk_at "go"
        exact done D _ H1 (by unfold letR; rfl) hD nD s1
theorem ok_ei {f : Addr} (D : MetAt K CE "__init__" "Effect.__init__" s_Effect___init__ ["self", "kind", "ends"] f) (T : ET K mg CE) : ∃ fd, Meth K CE "__init__" f ∧ Fun K "__init__" "Effect.__init__" s_Effect___init__ f fd ∧ Binds K fd ["self", "kind", "ends"] [] ∧ Gd P w K mg base CX0 1 f fd ["self", "kind", "ends"] (spEI CE) := by
  refine D.gd sc_Effect___init__ (fun vs H Q E h => ?_) (fun cdv A outer s H vs Q E rm gd h => ?_)
  · obtain ⟨x, dx, k, t, rfl, _⟩ := h
    rfl
  · obtain ⟨x, dx, k, t, rfl, hx, q⟩ := h
    have cl := T.cl
    have nK := T.nK
    have nE := T.nE
    refine ⟨_, (pss_cons (ps_fld (pv 0) (pv 1) rfl)
    (pss_one (ps_fld (pv 0) (pv 2) rfl))), ?_⟩
    walk_at "go"
    refine sfld hx cl nK (by decide) rfl fun H1 h1 e1 => ?_
    walk_at "go"
    refine sfld h1 cl nE (show 1 < 1000 by decide) rfl fun H2 h2 e2 => ?_
    walk_at "go"
    exact q H2 h2 fun b nb => (e2 b nb).trans (e1 b nb)
theorem ok_of {fo fT : Addr} {fdo fdT : FuncData} {cdo : Value} {oc kV doc pm ct dV : Value} {an od : Option Addr} {osl : Array (Option Value)} (lk : K.lookup fo = some ⟨oc, od, .func (PySem.W.fnOf "of" "Effect.of" (defArgs s_Effect_of) (defBody s_Effect_of) (defScope s_Effect_of) dV kV doc pm an cdo ct), osl⟩) (code : PySem.W.codeIn K cdo "Effect.of" = true) (TE : ET K mg CE)
    (c_cl : Cal P w K mg base 1 "check_letters" spCL) (c_ewl : Cal P w K mg base 2 "ends_without_letters" (spEWL C)) (c_eol : Cal P w K mg base 3 "ends_of_letter" (spEOL C)) (c_jo : Cal P w K mg base 1 "joined" spJoin)
    (ME : Mk K CE fT) (FEI : Gd P w K mg base CX0 1 fT fdT ["self", "kind", "ends"] (spEI CE)) (bEI : Binds K fdT ["self", "kind", "ends"] []) :
    Gd P w K mg base CX0 4 fo (PySem.W.fnOf "of" "Effect.of" (defArgs s_Effect_of) (defBody s_Effect_of) (defScope s_Effect_of) dV kV doc pm an cdo ct) ["cls", "kind", "letters", "quiet"] (spOf C CE) := by
  refine gd_of (k := 3) lk code sc_Effect_of (fun vs H Q E h => ?_) (fun A outer s0 H vs Q E rm gd h => ?_)
  · obtain ⟨k, x, r, wr, d, qt, rfl, _⟩ := h
    rfl
  · obtain ⟨k, x, r, wr, d, qt, rfl, lx, hk, kd, q⟩ := h
    have ccheck_letters := c_cl
    have cends_without_letters := c_ewl
    have cends_of_letter := c_eol
    have cjoined := c_jo
    suffices h : ∃ t, PSs (cxOf CX0 P w K mg base ["cls", "kind", "letters", "quiet", "between", "ends", "letter"] "Effect.of" (defScope s_Effect_of) fo cdo A outer s0 H E).nox (defBody s_Effect_of) t ∧ t { nx := fun _ H' => Q .non H', rt := Q } (start ["cls", "kind", "letters", "quiet", "between", "ends", "letter"] [.ref CE, .ref k, .str x, .bl qt]) H by
      obtain ⟨t, h1, h2⟩ := h
      exact ⟨t, h1.nox, h2⟩
    refine ⟨_, (pss_cons (ps_expr (pc ccheck_letters rm (by decide) gd rfl (pa_cons (pv 2) pa_nil)))
    (pss_cons (ps_set (i := 4) sc_Effect_of.nd rfl (Or.inl rfl) (pc cends_without_letters rm (by decide) gd rfl (pa_cons (pv 1) (pa_cons (pv 3) pa_nil))))
    (pss_cons (ps_set (i := 5) sc_Effect_of.nd rfl (Or.inl rfl) (pv 4))
    (pss_cons (ps_for PassesOwn.never rfl (pi_str (pv 2)) (pg_name (i := 6) sc_Effect_of.nd rfl (Or.inl rfl))
      (pss_one (ps_set (i := 5) sc_Effect_of.nd rfl (Or.inl rfl) (pc cjoined rm (by decide) gd rfl (pa_cons (pc cjoined rm (by decide) gd rfl (pa_cons (pv 5) (pa_cons (pc cends_of_letter rm (by decide) gd rfl (pa_cons (pv 1) (pa_cons (pv 6) pa_nil))) pa_nil))) (pa_cons (pv 4) pa_nil))))))
    (pss_one (ps_ret (pe_gmakeV ME FEI (rm.mono (by decide)) gd (pv 0) bEI .nil pass0 (pa_cons (pv 1) (pa_cons (pv 5) pa_nil))))))))), ?_⟩
    walk_at "go"
    refine ⟨x, rfl, lx.1, lx.2, fun H1 s1 => ?_⟩
    walk_at "go"
    refine ⟨k, qt, r, wr, d, rfl, hk.sm s1, kd, fun t H2 nt ht s2 => ?_⟩
    walk_at "go"
    unfold iStr
    walk_at "go"
    refine ⟨x, rfl, ?_⟩
    have n4 := stN_len wr
    refine ⟨fun i m σ H' => m = x.cps.size - i ∧ i ≤ x.cps.size ∧ (∃ tE v6, σ = [some (.ref CE), some (.ref k), some (.str x), some (.bl qt), some (.ref t), some (.ref tE), v6] ∧ RowsAt H' tE (ofR qt r wr d (x.cps.toList.take i))) ∧ Same H2 H', ⟨_, rfl, Nat.zero_le _, ⟨t, none, rfl, by rw [List.take_zero]; exact ht⟩, fun _ _ z => z⟩, ?_⟩
    rintro i m σ H3 ⟨rfl, hi, ⟨tE, v6, rfl, hE⟩, s3⟩
    have rwi : Rw (stN wr).length (ofR qt r wr d (x.cps.toList.take i)) := ofR_rw kd _ (fun c hc => lx.2 c (List.mem_of_mem_take hc)) _ (betw_rw kd.2.1 kd.2.2)
    rcases Nat.lt_or_ge i x.cps.size with lt | ge
    · refine .inr ⟨lt, fun σ' H' => (∃ tE v6, σ' = [some (.ref CE), some (.ref k), some (.str x), some (.bl qt), some (.ref t), some (.ref tE), v6] ∧ RowsAt H' tE (ofR qt r wr d (x.cps.toList.take (i + 1)))) ∧ Same H2 H', fun σ' H' ⟨e, s⟩ => ⟨_, by omega, rfl, lt, e, s⟩, fun y H4 ⟨eH, c, ec, ey⟩ => ?_⟩
      subst ey
      subst eH
      have ecl : x.cps.toList[i]? = some c := by rw [Array.getElem?_toList]; exact ec
      have hcm := lx.2 c (List.mem_of_getElem? ecl)
      walk_at "go"
      refine ⟨k, one c, r, wr, d, rfl, sign_of hcm, ((hk.sm s1).sm s2).sm s3, kd, fun tL H5 nL hL s5 => ?_⟩
      walk_at "go"
      refine ⟨tE, tL, _, _, _, rfl, hE.same s5, hL, rwi, letR_rw kd.1 kd.2.1 (sign_of hcm), n4, fun t6 H6 n6 h6 s6 => ?_⟩
      walk_at "go"
      refine ⟨t6, t, _, _, _, rfl, h6, (ht.same s3).same (s5.trans s6), rwi.joinR (letR_rw kd.1 kd.2.1 (sign_of hcm)), betw_rw kd.2.1 kd.2.2, n4, fun t7 H7 n7 h7 s7 => ?_⟩
      walk_at "go"
      have e1 : x.cps.toList.take (i + 1) = x.cps.toList.take i ++ [c] := by
        rw [List.take_add_one, ecl]
        rfl
      refine ⟨⟨t7, _, rfl, ?_⟩, s3.trans (s5.trans (s6.trans s7))⟩
      rw [e1, ofR_snoc]
      exact h7
    · obtain rfl : i = x.cps.size := by omega
      refine .inl ⟨Nat.le_refl _, ?_⟩
      have ea : x.cps.toList.take x.cps.size = x.cps.toList := by rw [← Array.length_toList, List.take_length]
      rw [ea] at hE
      walk_at "go"
      refine ⟨rfl, ?_⟩
      walk_at "go"
      refine make fun y dx H9 ny hy sy => ?_
      refine ⟨y, dx, k, tE, rfl, hy, fun H10 h10 e10 => ⟨rfl, ?_⟩⟩
      have sA : Same H3 H10 := fun b u z => (e10 b (ne_of_none z ny)).trans (sy _ _ z)
      have sH : Same H H3 := s1.trans (s2.trans s3)
      exact q y H10 (back sH ny) ⟨dx, tE, h10, (hk.sm sH).sm sA, hE.same sA⟩ (sH.trans sA)
theorem ok_ecall {f : Addr} (D : MetAt K CE "__call__" "Effect.__call__" s_Effect___call__ ["self", "state"] f) (T : ET K mg CE) : ∃ fd, Meth K CE "__call__" f ∧ Fun K "__call__" "Effect.__call__" s_Effect___call__ f fd ∧ Binds K fd ["self", "state"] [] ∧ Gd P w K mg base CX0 1 f fd ["self", "state"] (spECall C CE) := by
  refine D.gd sc_Effect___call__ (fun vs H Q E h => ?_) (fun cdv A outer s H vs Q E rm gd h => ?_)
  · obtain ⟨e, k, r, wr, d, F, s, row, rfl, _⟩ := h
    rfl
  · obtain ⟨e, k, r, wr, d, F, s, row, rfl, ⟨dx, t, h1, h2, ts, g1, g2, g3⟩, hr, q⟩ := h
    have cl := T.cl
    have nK := T.nK
    have nE := T.nE
    refine ⟨_, (pss_one (ps_ret (pe_ix ix_tup (pe_fld (pv 0) rfl) (pv 1) (fun _ _ => rfl)))), ?_⟩
    walk_at "go"
    obtain ⟨a, ha⟩ : ∃ a, ts[s]? = some a := ⟨_, List.getElem?_eq_getElem (by rw [g2]; exact (List.getElem?_eq_some_iff.mp hr).1)⟩
    refine w_ixT (SqT.of g1) (v := .ref a) (atI_nat (by rw [List.getElem?_map, ha]; rfl)) ?_
    exact q a (g3 s a row ha hr)
theorem ok_ee {f fE : Addr} {fdE : FuncData} (D : MetAt K CE "__eq__" "Effect.__eq__" s_Effect___eq__ ["self", "other"] f) (TE : ET K mg CE) (B : B1 mg) (T : KT K w mg C aW aI mc)
    (FEQ : Gd P w K mg base CX0 1 fE fdE ["self", "other"] (spEQ C)) (bEQ : Binds K fdE ["self", "other"] []) (eqI : PySem.W.findIn K (.ref C) "__eq__" = some (some (.ref fE))) (eqF : PySem.W.isFn K (.ref fE) = true) (nfC : PySem.W.notFirst K C (.ref C) = true) :
    ∃ fd, Meth K CE "__eq__" f ∧ Fun K "__eq__" "Effect.__eq__" s_Effect___eq__ f fd ∧ Binds K fd ["self", "other"] [] ∧ Gd P w K mg base CX0 3 f fd ["self", "other"] (spEE C CE) := by
  refine D.gd (k := 2) sc_Effect___eq__ (fun vs H Q E h => ?_) (fun cdv A outer s H vs Q E rm gd h => ?_)
  · obtain ⟨e, e', k, k', r, wr, d, r', w', d', F, F', rfl, _⟩ := h
    rfl
  · obtain ⟨e, e', k, k', r, wr, d, r', w', d', F, F', rfl, ⟨dx, t, h1, h2, h3⟩, ⟨dx', t', h1', h2', h3'⟩, q⟩ := h
    have cl := TE.cl
    have nK := TE.nK
    have nE := TE.nE
    refine ⟨_, (pss_one (ps_ret (pe_and (pe_callB call_isi (by rfl) B.g_isinstance (by decide +kernel) (pa_cons (pv 1) (pa_cons (pe_glob (v := .ref CE) rfl TE.g_Effect rfl) pa_nil))) (pe_and (pe_cmpR (op_eqO FEQ (rm.mono (by decide)) gd eqI eqF bEQ pass0) (pe_fld (pv 0) rfl) (pe_fld (pv 1) rfl) (nomark _)) (pe_one (pe_cmpR (op_eqD rm.units) (pe_fld (pv 0) rfl) (pe_fld (pv 1) rfl) (nomark _))))))), ?_⟩
    walk_at "go"
    refine ⟨.ref e', .ref CE, .ref CE, .ref CE, true, rfl, .own CE, .base (.ins h1' cl TE.isC T.isG T.isT TE.isM), if_pos (beq_self_eq_true _), true, rfl, ?_⟩
    refine iteT ?_
    walk_at "go"
    obtain ⟨dk, sk, hk1, _⟩ := id h2
    refine ⟨k, dk, _, .ref C, rfl, hk1, ty_kind T h2', nfC, ?_⟩
    refine ⟨k, k', r, wr, d, r', w', d', rfl, h2, h2', ?_⟩
    refine ⟨_, rfl, _, rfl, ?_⟩
    cases hd : (decide (r = r') && decide (wr = w') && decide (d = d')) with
    | false =>
      rw [hd] at q
      exact iteF q
    | true =>
      rw [hd] at q
      refine iteT ?_
      walk_at "go"
      exact ⟨_, _, dp_rows h3, dp_rows h3', sh_rows F, sh_rows F', q⟩
end
end Law

set_option Elab.async false
set_option linter.all false
set_option maxRecDepth 100000
set_option maxHeartbeats 4000000
namespace Law
open PySem PySem.Spec PySem.Calls PyProof.Rows L2 KG LamX
local macro_rules | `(tactic| walk_at "1") => `(tactic| first
  | (with_reducible refine w_var rfl ?_) | (with_reducible refine w_c ?_) | (with_reducible refine w_seq ?_) | (with_reducible refine w_asg ?_) | (with_reducible refine w_gname ?_) | (with_reducible refine w_op ?_) | (with_reducible refine w_un ?_)
  | (with_reducible refine w_add ?_) | (with_reducible refine w_sub ?_) | ((with_reducible refine' w_mod ?mo ?_); (case mo => first | assumption | decide | omega)) | (with_reducible refine w_and ?_) | (with_reducible refine w_or ?_) | (with_reducible refine w_xor ?_)
  | (with_reducible refine w_gt ?_) | (with_reducible refine w_lt ?_) | (with_reducible refine w_ge ?_) | (with_reducible refine w_le ?_) | ((with_reducible refine' w_eq ?sc ?_); (case sc => rfl)) | ((with_reducible refine' w_ne ?sc ?_); (case sc => rfl))
  | (with_reducible refine w_ret ?_) | (with_reducible refine w_next ?_) | (with_reducible refine w_ifs ?_) | (with_reducible refine w_ifx ?_) | (with_reducible refine w_test ?_) | (with_reducible refine w_tB ?_) | (with_reducible refine w_bl ?_)
  | ((with_reducible refine' w_ixL ?ixh ?ixa ?_); (case ixh => first | exact SqL.of (by assumption)); (case ixa => first | rfl | skip)) | ((with_reducible refine' w_ixT ?ixh ?ixa ?_); (case ixh => first | exact SqT.of (by assumption)); (case ixa => first | rfl | skip))
  | ((with_reducible refine' w_fld ?_)) | ((with_reducible refine' fld ?fh ?fc ?fn ?fl ?_); (case fh => assumption); (case fc => assumption); (case fn => assumption); (case fl => rfl)) | (with_reducible refine w_sfld ?_)
  | (with_reducible refine Or.inl ⟨_, rfl, ?_⟩) | (with_reducible refine w_gsub ?_) | (with_reducible refine w_andV ?_) | (with_reducible refine w_orV ?_)
  | (with_reducible refine w_nil ?_) | (with_reducible refine w_cons ?_) | (with_reducible refine w_tup ?_) | (with_reducible refine w_lst ?_) | (with_reducible refine w_and2 ?_) | (with_reducible refine w_or2 ?_) | (with_reducible refine w_not ?_) | (with_reducible refine w_cb ?_) | (with_reducible refine w_call ?_) | (with_reducible refine w_par ?_) | (with_reducible refine w_pnil ?_) | (with_reducible refine w_pcons ?_) | (with_reducible refine w_dput ?_) | (with_reducible refine w_dget ?_) | (with_reducible refine w_for ?_) | (with_reducible refine w_itup ?_) | (with_reducible refine w_ilist ?_) | (with_reducible refine w_irng ?_) | (with_reducible refine w_meth ?_) | (with_reducible refine w_make ?_) | (with_reducible refine w_makeK ?_) | (with_reducible refine w_methK ?_) | ((with_reducible refine' mth ?mh ?ml ?_); (case mh => assumption); (case ml => rfl)) | (with_reducible refine w_drop ?_))
local macro_rules | `(tactic| walk_at "go") => `(tactic| ((repeat (walk_at "1")); try dsimp only))
local macro_rules | `(tactic| walk_at "1") => `(tactic| first
  | (with_reducible refine w_notV ?_) | (with_reducible refine w_callK ?_) | (with_reducible refine w_lc ?_) | (with_reducible refine w_chain ?_) | (with_reducible refine w_neg ?_) | ((with_reducible refine' w_shr ?mo ?_); (case mo => first | assumption | omega)))
/-- a loop over a tuple within a generator's body -/
theorem gfor_tup {K : PySem.W.Frag} {a : Addr} {xs : List V} {g : TG} {tb : TGn} {D : GEnds} {ys : List V} {σ : L2.St} {H : Hp} (Pv : Nat → List V → L2.St → Hp → Prop) (h0 : Pv 0 ys σ H) (sq : ∀ i ys σ H, Pv i ys σ H → SqT K H a xs)
    (each : ∀ i x ys σ H, xs[i]? = some x → Pv i ys σ H → g x σ H fun σ2 H2 => tb { D with nx := Pv (i + 1), ct := Pv (i + 1), bk := D.nx } ys σ2 H2) (end_ : ∀ ys σ H, Pv xs.length ys σ H → D.nx ys σ H) :
    ∃ W : Nat → Nat → List V → L2.St → Hp → Prop, (∃ m, W 0 m ys σ H) ∧ ∀ i m ys σ H, W i m ys σ H →
      ((Itt K a).stop i H ∧ D.nx ys σ H) ∨ ((Itt K a).go i H ∧ ∃ N : List V → L2.St → Hp → Prop, (∀ ys' σ' H', N ys' σ' H' → ∃ m', m' < m ∧ W (i + 1) m' ys' σ' H') ∧ ∀ x H', (Itt K a).yld i H x H' → g x σ H' fun σ2 H2 => tb { D with nx := N, ct := N, bk := D.nx } ys σ2 H2) := by
  refine ⟨fun i m ys σ H => m + i = xs.length ∧ Pv i ys σ H, ⟨xs.length, rfl, h0⟩, fun i m ys σ H w => ?_⟩
  obtain ⟨e, p⟩ := w
  have h := sq i ys σ H p
  cases m with
  | zero =>
    obtain rfl : i = xs.length := by omega
    exact .inl ⟨⟨xs, h, Nat.le_refl _⟩, end_ _ _ _ p⟩
  | succ m =>
    have lt : i < xs.length := by omega
    refine .inr ⟨⟨xs, xs[i], h, List.getElem?_eq_getElem lt⟩, Pv (i + 1), fun ys' σ' H' p' => ⟨m, Nat.lt_succ_self m, by omega, p'⟩, fun x H' ⟨eH, y⟩ => ?_⟩
    subst eH
    exact each i x ys σ _ (y xs h) p
def PrA (H : Hp) : List V → List (Int × Int) → Prop
  | [], [] => True
  | v :: vs, p :: ps => (∃ t, v = .ref t ∧ H t = some (.tup [.int p.1, .int p.2])) ∧ PrA H vs ps
  | _, _ => False
theorem PrA.same {H H' : Hp} (s : Same H H') : ∀ {vs : List V} {ps : List (Int × Int)}, PrA H vs ps → PrA H' vs ps
  | [], [], _ => trivial
  | _ :: _, _ :: _, h => let ⟨⟨t, e, h1⟩, h2⟩ := h; ⟨⟨t, e, s _ _ h1⟩, PrA.same s h2⟩
  | [], _ :: _, h => h.elim
  | _ :: _, [], h => h.elim
theorem PrA.snoc {H : Hp} {t : Addr} {p : Int × Int} (h1 : H t = some (.tup [.int p.1, .int p.2])) : ∀ {vs : List V} {ps : List (Int × Int)}, PrA H vs ps → PrA H (vs ++ [.ref t]) (ps ++ [p])
  | [], [], _ => ⟨⟨t, rfl, h1⟩, trivial⟩
  | _ :: _, _ :: _, h => ⟨h.1, PrA.snoc h1 h.2⟩
  | [], _ :: _, h => h.elim
  | _ :: _, [], h => h.elim
theorem PrA.length {H : Hp} : ∀ {vs : List V} {ps : List (Int × Int)}, PrA H vs ps → vs.length = ps.length
  | [], [], _ => rfl
  | _ :: _, _ :: _, h => congrArg (· + 1) (PrA.length h.2)
  | [], _ :: _, h => h.elim
  | _ :: _, [], h => h.elim

def prs (F : List (List Int)) (l : List Int) : List (Int × Int) := l.flatMap fun s => (F.getD s.toNat []).map fun e => (s, e)
def spPairs (C CE : Addr) : SpG := fun vs H Q _ => ∃ (e k : Addr) (r w d : Str) (F : List (List Int)), vs = [.ref e] ∧ EffAt C CE H e k r w d F ∧ Rw (stN w).length F ∧ ∀ (outs : List V) (H' : Hp), PrA H' outs (prs F (stN w)) → Same H H' → Q outs H'
theorem stN_at {w : Str} {i : Nat} {s : Int} (h : (stN w)[i]? = some s) : s = (i : Int) := by
  have : ∀ b : Bool, ∀ i : Nat, i < 4 → ∀ s : Int, (if b = true then ([0, 1, 2, 3] : List Int) else [0, 1])[i]? = some s → s = (i : Int) := by
    intro b i hi s h
    have h4 : i = 0 ∨ i = 1 ∨ i = 2 ∨ i = 3 := by omega
    cases b <;> rcases h4 with rfl | rfl | rfl | rfl <;> simp at h <;> omega
  have hi : i < 4 := Nat.lt_of_lt_of_le (List.getElem?_eq_some_iff.mp h).1 (stN_len w)
  unfold stN at h
  by_cases e : w = "once"
  · rw [if_pos e] at h
    exact this true i hi s h
  · rw [if_neg e] at h
    exact this false i hi s h
theorem prs_snoc (F : List (List Int)) (l : List Int) (s : Int) : prs F (l ++ [s]) = prs F l ++ (F.getD s.toNat []).map fun e => (s, e) := by
  unfold prs
  rw [List.flatMap_append]
  simp
theorem prs_len {F : List (List Int)} (h : ∀ e ∈ F, e.length ≤ 4) : ∀ l : List Int, (prs F l).length ≤ 4 * l.length
  | [] => Nat.le_refl _
  | s :: l => by
    have ih := prs_len h l
    have : (F.getD s.toNat []).length ≤ 4 := by
      rw [List.getD_eq_getElem?_getD]
      cases e : F[s.toNat]? with
      | none => exact Nat.zero_le _
      | some x => exact h x (List.mem_of_getElem? e)
    unfold prs at ih ⊢
    rw [List.flatMap_cons, List.length_append, List.length_map, List.length_cons]
    omega
end Law

set_option Elab.async false
set_option linter.all false
set_option maxRecDepth 100000
set_option maxHeartbeats 4000000
namespace Law
open PySem PySem.Spec PySem.Calls PyProof.Rows L2 KG LamX
local macro_rules | `(tactic| walk_at "1") => `(tactic| first
  | (with_reducible refine w_var rfl ?_) | (with_reducible refine w_c ?_) | (with_reducible refine w_seq ?_) | (with_reducible refine w_asg ?_) | (with_reducible refine w_gname ?_) | (with_reducible refine w_op ?_) | (with_reducible refine w_un ?_)
  | (with_reducible refine w_add ?_) | (with_reducible refine w_sub ?_) | ((with_reducible refine' w_mod ?mo ?_); (case mo => first | assumption | decide | omega)) | (with_reducible refine w_and ?_) | (with_reducible refine w_or ?_) | (with_reducible refine w_xor ?_)
  | (with_reducible refine w_gt ?_) | (with_reducible refine w_lt ?_) | (with_reducible refine w_ge ?_) | (with_reducible refine w_le ?_) | ((with_reducible refine' w_eq ?sc ?_); (case sc => rfl)) | ((with_reducible refine' w_ne ?sc ?_); (case sc => rfl))
  | (with_reducible refine w_ret ?_) | (with_reducible refine w_next ?_) | (with_reducible refine w_ifs ?_) | (with_reducible refine w_ifx ?_) | (with_reducible refine w_test ?_) | (with_reducible refine w_tB ?_) | (with_reducible refine w_bl ?_)
  | ((with_reducible refine' w_ixL ?ixh ?ixa ?_); (case ixh => first | exact SqL.of (by assumption)); (case ixa => first | rfl | skip)) | ((with_reducible refine' w_ixT ?ixh ?ixa ?_); (case ixh => first | exact SqT.of (by assumption)); (case ixa => first | rfl | skip))
  | ((with_reducible refine' w_fld ?_)) | ((with_reducible refine' fld ?fh ?fc ?fn ?fl ?_); (case fh => assumption); (case fc => assumption); (case fn => assumption); (case fl => rfl)) | (with_reducible refine w_sfld ?_)
  | (with_reducible refine Or.inl ⟨_, rfl, ?_⟩) | (with_reducible refine w_gsub ?_) | (with_reducible refine w_andV ?_) | (with_reducible refine w_orV ?_)
  | (with_reducible refine w_nil ?_) | (with_reducible refine w_cons ?_) | (with_reducible refine w_tup ?_) | (with_reducible refine w_lst ?_) | (with_reducible refine w_and2 ?_) | (with_reducible refine w_or2 ?_) | (with_reducible refine w_not ?_) | (with_reducible refine w_cb ?_) | (with_reducible refine w_call ?_) | (with_reducible refine w_par ?_) | (with_reducible refine w_pnil ?_) | (with_reducible refine w_pcons ?_) | (with_reducible refine w_dput ?_) | (with_reducible refine w_dget ?_) | (with_reducible refine w_for ?_) | (with_reducible refine w_itup ?_) | (with_reducible refine w_ilist ?_) | (with_reducible refine w_irng ?_) | (with_reducible refine w_meth ?_) | (with_reducible refine w_make ?_) | (with_reducible refine w_makeK ?_) | (with_reducible refine w_methK ?_) | ((with_reducible refine' mth ?mh ?ml ?_); (case mh => assumption); (case ml => rfl)) | (with_reducible refine w_drop ?_))
local macro_rules | `(tactic| walk_at "go") => `(tactic| ((repeat (walk_at "1")); try dsimp only))
local macro_rules | `(tactic| walk_at "1") => `(tactic| first
  | (with_reducible refine w_notV ?_) | (with_reducible refine w_callK ?_) | (with_reducible refine w_lc ?_) | (with_reducible refine w_chain ?_) | (with_reducible refine w_neg ?_) | ((with_reducible refine' w_shr ?mo ?_); (case mo => first | assumption | omega)))
/-- what is tracked stays, but at p -/
def Kp (p : Addr) (H H' : Hp) : Prop := ∀ b o, H b = some o → b ≠ p → H' b = some o
/-- the pen at p -/
def PenC (n : Nat) (p l : Addr) (cells : List Int) (H : Hp) : Prop := cells.length ≤ 63 ∧ H l = some (.lst (cells.map V.int)) ∧ ∃ (a : Nat) (r : Int), a ≤ n ∧ H p = some (.lst [.ref l, .int a, .int r])
def spDraw : Sp := fun vs H Q _ => ∃ (p l : Addr) (cells : List Int) (n : Nat) (m : Int), vs = [.ref p, .int m] ∧ PenC n p l cells H ∧ n ≤ 100000 ∧ 0 < m ∧ m < 1073741824 ∧
  ∀ (d : Int) (H' : Hp), 0 ≤ d → d < m → PenC (n + 1) p l cells H' → Kp p H H' → Q (.int d) H'
structure Bi (mg : Str → Option Value) : Prop where
  g_int : mg "int" = none
  g_len : mg "len" = none
  g_abs : mg "abs" = none
  g_list : mg "list" = none
  g_repr : mg "repr" = none
  g_range : mg "range" = none
  g_str : mg "str" = none
theorem dp_ints {K : PySem.W.Frag} {H : Hp} : ∀ ns : List Int, DpAll K H (ns.map V.int) (ns.map PyData.int)
  | [] => .nil
  | n :: ns => .cons (.int n) (dp_ints ns)
theorem sh_ints (ns : List Int) : SeqAt.shaped (.list (ns.map PyData.int)) = true := by
  have h1 : ∀ ns : List Int, PyData.canLayAll0 (ns.map PyData.int) = true := fun ns => by
    induction ns with
    | nil => simp [PyData.canLayAll0]
    | cons a as ih => simp only [List.map_cons, PyData.canLayAll0, PyData.canLay0, ih, Bool.and_self]
  have h2 : ∀ ns : List Int, PyData.depthAll (ns.map PyData.int) = 0 := fun ns => by
    induction ns with
    | nil => simp [PyData.depthAll]
    | cons a as ih => simp only [List.map_cons, PyData.depthAll, PyData.depth, ih, Nat.max_self]
  unfold SeqAt.shaped
  simp only [PyData.canLay0, PyData.depth, h1, h2]
  decide
theorem at_int {cells : List Int} {i : Int} (h0 : 0 ≤ i) (h1 : i < (cells.length : Int)) : ∃ c : Int, atI (cells.map V.int) i = some (.int c) := by
  have h : i.toNat < cells.length := by omega
  refine ⟨cells[i.toNat], at_of (j := i.toNat) (by omega) ?_⟩
  rw [List.getElem?_map, List.getElem?_eq_getElem h]
  rfl
section
variable {P : Program} {w : World} {K : PySem.W.Frag} {mg : Str → Option Value} {base : Heap}
theorem ok_draw (D : DefAt K mg "_law_draw" s__law_draw ["_law_pen_here", "_law_many"]) (B : Bi mg) : Cal P w K mg base 1 "_law_draw" spDraw := by
  refine D.cal sc__law_draw (fun vs H Q E h => ?_) (fun f cdv A outer s H vs Q E rm gd h => ?_)
  · obtain ⟨p, l, cells, n, m, rfl, _⟩ := h
    rfl
  · obtain ⟨p, l, cells, n, m, rfl, ⟨hc, hl, a, r, ha, hp⟩, hn, hm, hm2, k⟩ := h
    have hpl : p ≠ l := ne_of hp hl (by
      intro z
      cases cells with
      | nil => cases z
      | cons c cs => injection z with z; injection z with z; cases z)
    refine ⟨_, (pss_cons (ps_if (pt_cmpR op_gt (pe_ix ix_list (pv 0) pe_int (fun _ _ => rfl)) pe_int (nomark _))
      (pss_cons (ps_set (i := 2) sc__law_draw.nd rfl (Or.inl rfl) (pe_op op_mod (pe_callTy call_int1 (by rfl) B.g_int (by decide +kernel) (pa_cons (pe_ix ix_list (pv 0) pe_int (fun _ _ => rfl)) pa_nil)) (pv 1)))
      (pss_cons (ps_asg (pe_op op_fdiv (pe_callTy call_int1 (by rfl) B.g_int (by decide +kernel) (pa_cons (pe_ix ix_list (pv 0) pe_int (fun _ _ => rfl)) pa_nil)) (pv 1)) (pg_sub (pv 0) pe_int set_list))
      (pss_one (ps_ret (pv 2)))))
      pss_nil)
    (pss_cons (ps_set (i := 3) sc__law_draw.nd rfl (Or.inl rfl) (pe_ix ix_list (pv 0) pe_int (fun _ _ => rfl)))
    (pss_cons (ps_asg (pe_op op_add (pv 3) pe_int) (pg_sub (pv 0) pe_int set_list))
    (pss_cons (ps_set (i := 4) sc__law_draw.nd rfl (Or.inl rfl) (pe_op op_add (pe_op op_mul pe_int (pv 3)) pe_int))
    (pss_mid (ps_if (pt_cmpR (op_neD rm.units) (pe_ix ix_list (pv 0) pe_int (fun _ _ => rfl)) (pe_lst pa_nil) (nomark _))
      (pss_one (ps_set (i := 4) sc__law_draw.nd rfl (Or.inl rfl) (pe_ix ix_list (pe_ix ix_list (pv 0) pe_int (fun _ _ => rfl)) (pe_op op_mod (pe_callTy call_int1 (by rfl) B.g_int (by decide +kernel) (pa_cons (pv 3) pa_nil)) (pe_callB call_len_seq (by rfl) B.g_len (by decide +kernel) (pa_cons (pe_ix ix_list (pv 0) pe_int (fun _ _ => rfl)) pa_nil))) (fun _ _ => rfl))))
      pss_nil)
    (pss_mid (ps_if (PW.pt (pw_and (pt_cmpR op_lt (pv 3) (pe_callB call_len_seq (by rfl) B.g_len (by decide +kernel) (pa_cons (pe_ix ix_list (pv 0) pe_int (fun _ _ => rfl)) pa_nil)) (nomark _)) (pw_and1 (pt_cmpR op_ge (pe_callB call_abs (by rfl) B.g_abs (by decide +kernel) (pa_cons (pv 4) pa_nil)) (pe_op op_pow pe_int pe_int) (nomark _)))))
      (pss_cons (ps_set (i := 5) sc__law_draw.nd rfl (Or.inl rfl) (pe_op op_add (pe_op op_mul pe_int (pe_callB call_abs (by rfl) B.g_abs (by decide +kernel) (pa_cons (pv 4) pa_nil))) (pe_callTy call_int1 (by rfl) B.g_int (by decide +kernel) (pa_cons (pe_cmpR op_lt (pv 4) pe_int (nomark _)) pa_nil))))
      (pss_cons (ps_asg (pe_op op_fdiv (pv 5) (pv 1)) (pg_sub (pv 0) pe_int set_list))
      (pss_one (ps_ret (pe_op op_mod (pe_callTy call_int1 (by rfl) B.g_int (by decide +kernel) (pa_cons (pv 5) pa_nil)) (pv 1))))))
      pss_nil)
    (pss_cons (ps_set (i := 6) sc__law_draw.nd rfl (Or.inl rfl) (pe_op op_mod (pe_op op_pow (pe_callTy call_int1 (by rfl) B.g_int (by decide +kernel) (pa_cons (pe_op op_add (pe_op op_add (pe_op op_mod (pe_callTy call_int1 (by rfl) B.g_int (by decide +kernel) (pa_cons (pv 4) pa_nil)) pe_int) (pe_op op_mul pe_int (pv 3))) pe_int) pa_nil)) pe_int) pe_int))
    (pss_cons (ps_set (i := 6) sc__law_draw.nd rfl (Or.inl rfl) (pe_op op_mod (pe_op op_pow (pe_callTy call_int1 (by rfl) B.g_int (by decide +kernel) (pa_cons (pe_op op_add (pe_op op_add (pe_op op_mul (pv 6) (pe_op op_add (pv 3) pe_int)) (pe_op op_mul (pe_op op_mul pe_int (pv 3)) (pv 3))) pe_int) pa_nil)) pe_int) pe_int))
    (pss_one (ps_ret (pe_op op_mod (pe_callTy call_int1 (by rfl) B.g_int (by decide +kernel) (pa_cons (pe_op op_fdiv (pv 6) pe_int) pa_nil)) (pv 1)))))))))))), ?_⟩
    walk_at "go"
    refine ite2 (fun h0 => ?_) (fun h0 => ?_)
    · walk_at "go"
      refine w_fdiv ⟨hm, hm2⟩ ?_
      walk_at "go"
      refine w_setG hp rfl rfl fun H1 hp1 e1 => ?_
      walk_at "go"
      refine k _ _ (Int.emod_nonneg _ (by omega)) (Int.emod_lt_of_pos _ hm) ⟨hc, (e1 l hpl.symm).trans hl, a, r / m, by omega, hp1⟩ fun b o e nb => (e1 b nb).trans e
    · walk_at "go"
      refine w_setG hp rfl rfl fun H1 hp1 e1 => ?_
      have hl1 : H1 l = some (.lst (cells.map V.int)) := (e1 l hpl.symm).trans hl
      have hp1 : H1 p = some (.lst [.ref l, .int ((a + 1 : Nat) : Int), .int r]) := hp1
      walk_at "go"
      refine w_mul (.inl ⟨by omega, by omega⟩) ?_
      walk_at "go"
      refine ⟨fun σ' H' => Same H1 H' ∧ ∃ c : Int, σ' = [some (.ref p), some (.int m), none, some (.int a), some (.int c), none, none], ?_, ?_⟩
      · walk_at "go"
        refine new (by decide) fun z H2 nz hz s2 => ?_
        have hp2 := s2 _ _ hp1
        have hl2 := s2 _ _ hl1
        refine ⟨.list (cells.map .int), .list [], .lst (SqL.of hl2) (dp_ints cells), .lst (SqL.of hz) .nil, sh_ints cells, by decide +kernel, ?_⟩
        walk_at "go"
        refine ite2 (fun hne => ?_) (fun _ => ?_)
        · have pos : 0 < cells.length := by
            cases cells with
            | nil => exact absurd hne (by decide)
            | cons c cs => exact Nat.succ_pos _
          walk_at "go"
          refine ⟨l, cells.map .int, rfl, .inl (SqL.of hl2), ?_⟩
          rw [List.length_map]
          walk_at "go"
          have b0 : 0 ≤ (a : Int) % (cells.length : Int) := Int.emod_nonneg _ (by omega)
          have b1 : (a : Int) % (cells.length : Int) < (cells.length : Int) := Int.emod_lt_of_pos _ (by omega)
          obtain ⟨c, hc'⟩ := at_int (cells := cells) b0 b1
          refine w_ixL (SqL.of hl2) hc' ?_
          walk_at "go"
          exact ⟨s2, c, rfl⟩
        · walk_at "go"
          exact ⟨s2, _, rfl⟩
      · rintro σ' H2 ⟨s2, c, rfl⟩
        have hp2 := s2 _ _ hp1
        have hl2 := s2 _ _ hl1
        have fin : ∀ (d : Int) (rr : Int) (H' : Hp), 0 ≤ d → d < m → H' p = some (.lst [.ref l, .int ((a + 1 : Nat) : Int), .int rr]) → (∀ b, b ≠ p → H' b = H2 b) → Q (V.int d) H' := fun d rr H' d0 d1 hp' e' =>
          k d H' d0 d1 ⟨hc, (e' l hpl.symm).trans hl2, a + 1, rr, by omega, hp'⟩ fun b o e nb => (e' b nb).trans (s2 _ _ ((e1 b nb).trans e))
        have absok : ∀ c : Int, 0 ≤ (if c < 0 then -c else c) := fun c => by split <;> omega
        refine ⟨fun σ' H' => H' = H2 ∧ σ' = [some (.ref p), some (.int m), none, some (.int a), some (.int c), none, none], ?_, ?_⟩
        · have big : ∀ (b : Int) (D : Ends), (∀ (d : Int) (H' : Hp), D.rt (.int d) H' = Q (.int d) H') → True := fun _ _ _ => trivial
          walk_at "go"
          refine ⟨l, cells.map .int, rfl, .inl (SqL.of hl2), ?_⟩
          rw [List.length_map]
          walk_at "go"
          refine ite2 (fun h1 => ?_) (fun h1 => ?_)
          · walk_at "go"
            refine ⟨c, rfl, ?_⟩
            walk_at "go"
            refine w_pow ⟨by decide, by decide, by decide⟩ ?_
            walk_at "go"
            refine ite2 (fun h2 => ?_) (fun h2 => ?_)
            · walk_at "go"
              refine ⟨c, rfl, ?_⟩
              refine w_mul (.inl ⟨by decide, by decide⟩) ?_
              walk_at "go"
              refine .inr ⟨_, rfl, ?_⟩
              walk_at "go"
              refine w_fdiv ⟨hm, hm2⟩ ?_
              walk_at "go"
              refine w_setG hp2 rfl rfl fun H3 hp3 e3 => ?_
              walk_at "go"
              exact fin _ _ _ (Int.emod_nonneg _ (by omega)) (Int.emod_lt_of_pos _ hm) hp3 e3
            · walk_at "go"
              exact ⟨rfl, rfl⟩
          · walk_at "go"
            refine ite2 (fun h2 => absurd h2 (by decide)) (fun h2 => ?_)
            walk_at "go"
            exact ⟨rfl, rfl⟩
        · rintro σ' H' ⟨rfl, rfl⟩
          have an : 0 ≤ (a : Int) := Int.natCast_nonneg _
          have a2 : (a : Int) ≤ 100000 := by omega
          walk_at "go"
          refine w_mul (.inl ⟨by decide, by decide⟩) ?_
          walk_at "go"
          have q0 : 0 ≤ c % 2147483579 := Int.emod_nonneg _ (by decide)
          have q1 : c % 2147483579 < 2147483579 := Int.emod_lt_of_pos _ (by decide)
          refine w_pow ⟨by decide, by decide, by omega⟩ ?_
          walk_at "go"
          generalize hx : (c % 2147483579 + 57131 * (a : Int) + 211) ^ Int.toNat 5 % 2147483629 = x
          have x0 : 0 ≤ x := by rw [← hx]; exact Int.emod_nonneg _ (by decide)
          have x1 : x < 2147483629 := by rw [← hx]; exact Int.emod_lt_of_pos _ (by decide)
          refine w_mul (.inl ⟨by omega, by omega⟩) ?_
          walk_at "go"
          refine w_mul (.inl ⟨by decide, by decide⟩) ?_
          walk_at "go"
          refine w_mul (.inr ⟨by omega, by omega⟩) ?_
          walk_at "go"
          have y0 : 0 ≤ x * ((a : Int) + 64007) := Int.mul_nonneg x0 (by omega)
          have y1 : x * ((a : Int) + 64007) ≤ 2147483629 * 164007 := Int.mul_le_mul (by omega) (by omega) (by omega) (by decide)
          have z0 : 0 ≤ 91009 * (a : Int) * (a : Int) := Int.mul_nonneg (by omega) an
          have z1 : 91009 * (a : Int) * (a : Int) ≤ 91009 * 100000 * 100000 := Int.mul_le_mul (by omega) a2 an (by decide)
          refine w_pow ⟨by decide, by decide, by omega⟩ ?_
          walk_at "go"
          refine w_fdiv ⟨by decide, by decide⟩ ?_
          walk_at "go"
          exact fin _ r _ (Int.emod_nonneg _ (by omega)) (Int.emod_lt_of_pos _ hm) hp2 fun _ _ => rfl
theorem cut_ints (ns : List Int) (lo hi : Option Int) : ∃ ms : List Int, cutV (ns.map V.int) lo hi = ms.map V.int ∧ ms.length ≤ ns.length := by
  unfold cutV
  refine ⟨(ns.drop (HT.sIx (ns.map V.int).length 0 lo)).take (HT.sIx (ns.map V.int).length (ns.map V.int).length hi - HT.sIx (ns.map V.int).length 0 lo), ?_, ?_⟩
  · rw [List.map_take, List.map_drop]
  · rw [List.length_take, List.length_drop]
    omega
def spPen (K : PySem.W.Frag) : Sp := fun vs H Q _ => ∃ (a : Addr) (ns : List Int), vs = [.ref a] ∧ SqL K H a (ns.map V.int) ∧ ns.length ≤ 63 ∧
  ∀ (p l : Addr) (cells : List Int) (H' : Hp), H p = none → PenC 0 p l cells H' → Same H H' → Q (.ref p) H'
theorem ok_pen (D : DefAt K mg "_law_pen" s__law_pen ["_law_script"]) (B : Bi mg) : Cal P w K mg base 1 "_law_pen" (spPen K) := by
  refine D.cal sc__law_pen (fun vs H Q E h => ?_) (fun f cdv A outer s H vs Q E rm gd h => ?_)
  · obtain ⟨a, ns, rfl, _⟩ := h
    rfl
  · obtain ⟨a, ns, rfl, hs, hl, k⟩ := h
    obtain ⟨ms, em, lm⟩ := cut_ints ns none (some 63)
    refine ⟨_, (pss_one (ps_ret (pe_lst (pa_cons (pe_callTy call_list_of (by rfl) B.g_list (by decide +kernel) (pa_cons (pe_slice sl_list (pv 0) po_none (po_some pe_int)) pa_nil)) (pa_cons pe_int (pa_cons pe_int pa_nil)))))), ?_⟩
    walk_at "go"
    refine ⟨_, rfl, _, rfl, a, ns.map .int, rfl, hs, fun p1 n1 => ?_⟩
    rw [em]
    have s1 : Same H (upd H p1 (.lst (ms.map V.int))) := fun b u e => by rw [upd_ne (ne_of_none e n1)]; exact e
    walk_at "go"
    refine ⟨p1, ms.map .int, rfl, .inl (SqL.of upd_same), fun l nl => ?_⟩
    have s2 : Same (upd H p1 (.lst (ms.map V.int))) (upd (upd H p1 (.lst (ms.map V.int))) l (.lst (ms.map V.int))) := fun b u e => by rw [upd_ne (ne_of_none e nl)]; exact e
    walk_at "go"
    refine new (by show 3 ≤ sizeLine; decide) fun p H3 np h3 s3 => ?_
    exact k p l ms H3 (s1.free (s2.free np)) ⟨by omega, s3 _ _ upd_same, 0, 0, Nat.le_refl _, h3⟩ (s1.trans (s2.trans s3))
end
/-! ### the law's own helpers -/
def rdL (r : Str) (s : Int) : Int := if r = "take" then s - s % 2 else s
def wrL (w : Str) (s b : Int) : Int := if w = "once" then (if 1 < s then s else 2 + b) else (s - s % 2) + tabV w (s % 2) b
def dvL (d : Str) (s : Int) : List V := if d = "drift" ∨ (d = "raise" ∧ s % 2 = 0) ∨ (d = "end" ∧ s % 2 = 1) then [.int (s + 1 - 2 * (s % 2))] else []
def spRdL : Sp := fun vs H Q _ => ∃ (r : Str) (s : Int), vs = [.str r, .int s] ∧ Q (.int (rdL r s)) H
def spWrL : Sp := fun vs H Q _ => ∃ (w : Str) (s b : Int), vs = [.str w, .int s, .int b] ∧ w ∈ WR ∧ (b = 0 ∨ b = 1) ∧ ∀ H', Same H H' → Q (.int (wrL w s b)) H'
def spDvL : Sp := fun vs H Q _ => ∃ (d : Str) (s : Int), vs = [.str d, .int s] ∧ ∀ t H', H t = none → H' t = some (.tup (dvL d s)) → Same H H' → Q (.ref t) H'
def spWords : Sp := fun vs H Q _ => ∃ (p l : Addr) (cells : List Int) (n : Nat), vs = [.ref p] ∧ PenC n p l cells H ∧ n + 3 ≤ 100000 ∧
  ∀ (t : Addr) (r w d : Str) (H' : Hp), r ∈ RD → w ∈ WR → d ∈ DV → H t = none → H' t = some (.tup [.str r, .str w, .str d]) → PenC (n + 3) p l cells H' → Kp p H H' → Q (.ref t) H'
section
variable {P : Program} {w : World} {K : PySem.W.Frag} {mg : Str → Option Value} {base : Heap} {C aW aI : Addr} {mc : Value}
theorem dS (a b : Str) : decide (V.str a = V.str b) = decide (a = b) := by
  by_cases h : a = b
  · subst h
    rw [decide_eq_true rfl, decide_eq_true rfl]
  · rw [decide_eq_false h, decide_eq_false fun z => h (V.str.inj z)]
theorem dI (a b : Int) : decide (V.int a = V.int b) = decide (a = b) := by
  by_cases h : a = b
  · subst h
    rw [decide_eq_true rfl, decide_eq_true rfl]
  · rw [decide_eq_false h, decide_eq_false fun z => h (V.int.inj z)]
theorem ok_rdL (D : DefAt K mg "_law_read" s__law_read ["_law_reading", "_law_state"]) : Cal P w K mg base 1 "_law_read" spRdL := by
  refine D.cal sc__law_read (fun vs H Q E h => ?_) (fun f cdv A outer s H vs Q E rm gd h => ?_)
  · obtain ⟨r, s, rfl, _⟩ := h
    rfl
  · obtain ⟨r, s, rfl, q⟩ := h
    refine ⟨_, (pss_one (ps_ret (pe_ifExp (pt_cmpR op_eq (pv 0) pe_str (nomark _)) (pe_op op_sub (pv 1) (pe_op op_mod (pv 1) pe_int)) (pv 1)))), ?_⟩
    walk_at "go"
    rw [dS]
    unfold rdL at q
    by_cases e : r = "take"
    · rw [if_pos e] at q
      rw [decide_eq_true e]
      refine iteT ?_
      walk_at "go"
      exact q
    · rw [if_neg e] at q
      rw [decide_eq_false e]
      refine iteF ?_
      walk_at "go"
      exact q
theorem ok_dvL (D : DefAt K mg "_law_deeds" s__law_deeds ["_law_device", "_law_state"]) : Cal P w K mg base 1 "_law_deeds" spDvL := by
  refine D.cal sc__law_deeds (fun vs H Q E h => ?_) (fun f cdv A outer s H vs Q E rm gd h => ?_)
  · obtain ⟨d, s, rfl, _⟩ := h
    rfl
  · obtain ⟨d, s, rfl, q⟩ := h
    refine ⟨_, (pss_mid (ps_if (PW.pt (pw_or (pt_cmpR op_eq (pv 0) pe_str (nomark _)) (pw_or (PW.pt (pw_and (pt_cmpR op_eq (pv 0) pe_str (nomark _)) (pw_and1 (pt_cmpR op_eq (pe_op op_mod (pv 1) pe_int) pe_int (nomark _))))) (pw_or1 (PW.pt (pw_and (pt_cmpR op_eq (pv 0) pe_str (nomark _)) (pw_and1 (pt_cmpR op_eq (pe_op op_mod (pv 1) pe_int) pe_int (nomark _)))))))))
      (pss_one (ps_ret (pe_tup (pa_cons (pe_op op_sub (pe_op op_add (pv 1) pe_int) (pe_op op_mul pe_int (pe_op op_mod (pv 1) pe_int))) pa_nil))))
      pss_nil)
    (pss_one (ps_ret (pe_tup pa_nil)))), ?_⟩
    refine w_mid (fun σ' H' => H' = H ∧ σ' = [some (.str d), some (.int s)] ∧ ¬ (d = "drift" ∨ (d = "raise" ∧ s % 2 = 0) ∨ (d = "end" ∧ s % 2 = 1))) ?_ ?_
    · have yes : (d = "drift" ∨ (d = "raise" ∧ s % 2 = 0) ∨ (d = "end" ∧ s % 2 = 1)) → dvL d s = [.int (s + 1 - 2 * (s % 2))] := fun h => if_pos h
      walk_at "go"
      rw [dS]
      refine ite2 (fun h1 => ?_) (fun h1 => ?_)
      · refine iteT ?_
        walk_at "go"
        refine w_mul (.inl ⟨by decide, by decide⟩) ?_
        walk_at "go"
        refine new (by show 1 ≤ sizeLine; decide) fun t H1 n1 h9 s1 => ?_
        rw [yes (.inl (of_decide_eq_true h1))] at q
        exact q t H1 n1 h9 s1
      walk_at "go"
      rw [dS]
      have a1 : ¬ d = "drift" := fun z => h1 (decide_eq_true z)
      refine ite2 (fun h2 => ?_) (fun h2 => ?_)
      · have a2 : d = "raise" := of_decide_eq_true h2
        walk_at "go"
        rw [dI]
        refine ite2 (fun h3 => ?_) (fun h3 => ?_)
        · refine iteT ?_
          walk_at "go"
          refine w_mul (.inl ⟨by decide, by decide⟩) ?_
          walk_at "go"
          refine new (by show 1 ≤ sizeLine; decide) fun t H1 n1 h1 s1 => ?_
          rw [yes (.inr (.inl ⟨a2, of_decide_eq_true h3⟩))] at q
          exact q t H1 n1 h1 s1
        · walk_at "go"
          rw [dS]
          refine ite2 (fun h4 => absurd (a2.symm.trans (of_decide_eq_true h4)) (by decide)) (fun h4 => ?_)
          refine iteF ?_
          walk_at "go"
          exact ⟨rfl, rfl, fun z => z.elim a1 fun z => z.elim (fun z => h3 (decide_eq_true z.2)) fun z => h4 (decide_eq_true z.1)⟩
      · have a2 : ¬ d = "raise" := fun z => h2 (decide_eq_true z)
        refine iteF ?_
        walk_at "go"
        rw [dS]
        refine ite2 (fun h3 => ?_) (fun h3 => ?_)
        · have a3 : d = "end" := of_decide_eq_true h3
          walk_at "go"
          rw [dI]
          refine ite2 (fun h4 => ?_) (fun h4 => ?_)
          · walk_at "go"
            refine w_mul (.inl ⟨by decide, by decide⟩) ?_
            walk_at "go"
            refine new (by show 1 ≤ sizeLine; decide) fun t H1 n1 h1 s1 => ?_
            rw [yes (.inr (.inr ⟨a3, of_decide_eq_true h4⟩))] at q
            exact q t H1 n1 h1 s1
          · walk_at "go"
            exact ⟨rfl, rfl, fun z => z.elim a1 fun z => z.elim (fun z => a2 z.1) fun z => h4 (decide_eq_true z.2)⟩
        · refine iteF ?_
          walk_at "go"
          exact ⟨rfl, rfl, fun z => z.elim a1 fun z => z.elim (fun z => a2 z.1) fun z => h3 (decide_eq_true z.1)⟩
    · rintro σ' H' ⟨rfl, rfl, no⟩
      walk_at "go"
      refine new (by show 0 ≤ sizeLine; decide) fun t H1 n1 h1 s1 => ?_
      unfold dvL at q
      rw [if_neg no] at q
      exact q t H1 n1 h1 s1
theorem ok_wrL (D : DefAt K mg "_law_write" s__law_write ["_law_writing", "_law_state", "_law_bit"]) : Cal P w K mg base 1 "_law_write" spWrL := by
  refine D.cal sc__law_write (fun vs H Q E h => ?_) (fun f cdv A outer s H vs Q E rm gd h => ?_)
  · obtain ⟨wr, s, b, rfl, _⟩ := h
    rfl
  · obtain ⟨wr, s, b, rfl, hw, hb, q⟩ := h
    have hu := hu_of rm
    refine ⟨_, (pss_cons (ps_par (i := 3) (j := 4) rfl sc__law_write.nd rfl rfl (by decide) rfl rfl (pa_cons (pe_op op_mod (pv 1) pe_int) (pa_cons (pe_op op_sub (pv 1) (pe_op op_mod (pv 1) pe_int)) pa_nil)) (by rfl))
    (pss_cons (ps_if (pt_cmpR op_eq (pv 0) pe_str (nomark _))
      (pss_one (ps_ret (pe_ifExp (pt_cmpR op_gt (pv 1) pe_int (nomark _)) (pv 1) (pe_op op_add pe_int (pv 2)))))
      pss_nil)
    (pss_cons (ps_set (i := 5) sc__law_write.nd rfl (Or.inl rfl) (pe_disp (pps_cons pe_str (pe_tup (pa_cons pe_int (pa_cons pe_int pa_nil))) (pps_cons pe_str (pe_tup (pa_cons (pv 3) (pa_cons pe_int pa_nil))) (pps_cons pe_str (pe_tup (pa_cons pe_int (pa_cons (pv 3) pa_nil))) (pps_cons pe_str (pe_tup (pa_cons (pv 3) (pa_cons pe_int pa_nil))) (pps_cons pe_str (pe_tup (pa_cons (pv 3) (pa_cons (pv 3) pa_nil))) pps_nil))))) (by rfl) (by rfl) (fun z => by cases z) (by decide)))
    (pss_cons (ps_dput hu (pv 5) pe_str (pe_tup (pa_cons (pv 3) (pa_cons (pe_op op_sub pe_int (pv 3)) pa_nil))) rfl)
    (pss_one (ps_ret (pe_op op_add (pv 4) (pe_ix ix_tup (pe_dget hu (pv 5) (pv 0) (fun _ _ => rfl)) (pv 2) (fun _ _ => rfl))))))))), ?_⟩
    walk_at "go"
    refine ⟨_, _, rfl, ?_⟩
    walk_at "go"
    rw [dS]
    refine ite2 (fun h1 => ?_) (fun h1 => ?_)
    · have e : wr = "once" := of_decide_eq_true h1
      have q := q H (Same.refl _)
      unfold wrL at q
      rw [if_pos e] at q
      walk_at "go"
      refine ite2 (fun h2 => ?_) (fun h2 => ?_)
      · rw [if_pos (of_decide_eq_true h2)] at q
        walk_at "go"
        exact q
      · rw [if_neg (fun z => h2 (decide_eq_true z))] at q
        walk_at "go"
        exact q
    · have e : ¬ wr = "once" := fun z => h1 (decide_eq_true z)
      walk_at "go"
      refine w_disp fun p H1 n1 h1 s1 => ?_
      walk_at "go"
      refine new (by show 2 ≤ sizeLine; decide) fun t1 H2 n2 h2 s2 => ?_
      walk_at "go"
      refine new (by show 2 ≤ sizeLine; decide) fun t2 H3 n3 h3 s3 => ?_
      walk_at "go"
      refine new (by show 2 ≤ sizeLine; decide) fun t3 H4 n4 h4 s4 => ?_
      walk_at "go"
      refine new (by show 2 ≤ sizeLine; decide) fun t4 H5 n5 h5 s5 => ?_
      walk_at "go"
      refine new (by show 2 ≤ sizeLine; decide) fun t5 H6 n6 h6 s6 => ?_
      walk_at "go"
      have sB := s2.trans (s3.trans (s4.trans (s5.trans s6)))
      refine dall [(.inr "store", .ref t1), (.inr "clear1", .ref t2), (.inr "clear0", .ref t3), (.inr "set1", .ref t4), (.inr "none", .ref t5)] (sB _ _ h1) rfl (by show 5 ≤ 15; decide) rfl fun H7 h7 e7 => ?_
      walk_at "go"
      refine new (by show 2 ≤ sizeLine; decide) fun t6 H8 n8 h8 s8 => ?_
      walk_at "go"
      refine dput (.inr "flip1") (s8 _ _ h7) (by show 5 < sizeLine; decide) rfl fun H9 h9 e9 => ?_
      walk_at "go"
      have to7 : ∀ {t : Addr} {xs : List V}, H6 t = some (.tup xs) → H9 t = some (.tup xs) := fun {t xs} h => by
        have a1 : t ≠ p := ne_of h (sB _ _ h1) (by intro z; cases z)
        rw [e9 t a1]
        exact s8 _ _ ((e7 t a1).trans h)
      have g1 := to7 (s6 _ _ (s5 _ _ (s4 _ _ (s3 _ _ h2))))
      have g2 := to7 (s6 _ _ (s5 _ _ (s4 _ _ h3)))
      have g3 := to7 (s6 _ _ (s5 _ _ h4))
      have g4 := to7 (s6 _ _ h5)
      have g5 := to7 h6
      have g6 : H9 t6 = some (.tup [.int (s % 2), .int (1 - s % 2)]) := by
        have a1 : t6 ≠ p := ne_of h8 (s8 _ _ h7) (by intro z; cases z)
        exact (e9 t6 a1).trans h8
      have sC : Same H H9 := fun b o hb => by
        have a1 : b ≠ p := ne_of_none hb n1
        rw [e9 b a1]
        refine s8 _ _ ((e7 b a1).trans (sB _ _ (s1 _ _ hb)))
      have q := q H9 sC
      unfold wrL at q
      rw [if_neg e] at q
      have get : ∀ (t : Addr) (x y : Int) (σ : L2.St) (QQ : VK), H9 t = some (.tup [.int x, .int y]) → QQ (.int (if b = 0 then x else y)) H9 → rIxT K (.ref t) (.int b) H9 QQ := fun t x y σ QQ ht hq => by
        rcases hb with rfl | rfl
        · exact w_ixT (SqT.of ht) rfl hq
        · exact w_ixT (SqT.of ht) rfl hq
      have tv : ∀ v : Int, tabV wr v b = (if b = 0 then tabV wr v 0 else tabV wr v 1) := fun v => by
        rcases hb with rfl | rfl <;> rfl
      simp only [WR, List.mem_cons, List.not_mem_nil, or_false] at hw
      rcases hw with rfl | rfl | rfl | rfl | rfl | rfl | rfl
      · refine dget (.inr "store") h9 rfl ?_
        walk_at "go"
        refine get t1 _ _ [] _ g1 ?_
        walk_at "go"
        rw [tv] at q
        exact q
      · refine dget (.inr "clear1") h9 rfl ?_
        walk_at "go"
        refine get t2 _ _ [] _ g2 ?_
        walk_at "go"
        rw [tv] at q
        exact q
      · refine dget (.inr "clear0") h9 rfl ?_
        walk_at "go"
        refine get t3 _ _ [] _ g3 ?_
        walk_at "go"
        rw [tv] at q
        exact q
      · refine dget (.inr "set1") h9 rfl ?_
        walk_at "go"
        refine get t4 _ _ [] _ g4 ?_
        walk_at "go"
        rw [tv] at q
        exact q
      · refine dget (.inr "flip1") h9 rfl ?_
        walk_at "go"
        refine get t6 _ _ [] _ g6 ?_
        walk_at "go"
        rw [tv] at q
        exact q
      · exact absurd rfl e
      · refine dget (.inr "none") h9 rfl ?_
        walk_at "go"
        refine get t5 _ _ [] _ g5 ?_
        walk_at "go"
        rw [tv] at q
        exact q
theorem PenC.same {n : Nat} {p l : Addr} {cells : List Int} {H H' : Hp} (h : PenC n p l cells H) (s : Same H H') : PenC n p l cells H' := by
  obtain ⟨a, b, c, d, e, f⟩ := h
  exact ⟨a, s _ _ b, c, d, e, s _ _ f⟩
theorem at_strs {l : List Str} {i : Int} (h0 : 0 ≤ i) (h1 : i < (l.length : Int)) : ∃ x, x ∈ l ∧ atI (l.map V.str) i = some (.str x) := by
  have h : i.toNat < l.length := by omega
  refine ⟨l[i.toNat], List.getElem_mem h, at_of (j := i.toNat) (by omega) ?_⟩
  rw [List.getElem?_map, List.getElem?_eq_getElem h]
  rfl
theorem ok_words (D : DefAt K mg "_law_words" s__law_words ["_law_pen_here"]) (c_law_draw : Cal P w K mg base 1 "_law_draw" spDraw) : Cal P w K mg base 2 "_law_words" spWords := by
  refine D.cal sc__law_words (fun vs H Q E h => ?_) (fun f cdv A outer s H vs Q E rm gd h => ?_)
  · obtain ⟨p, l, cells, n, rfl, _⟩ := h
    rfl
  · obtain ⟨p, l, cells, n, rfl, pen, hn, q⟩ := h
    refine ⟨_, (pss_cons (ps_set (i := 1) sc__law_words.nd rfl (Or.inl rfl) (pe_tup (pa_cons pe_str (pa_cons pe_str (pa_cons pe_str (pa_cons pe_str (pa_cons pe_str (pa_cons pe_str (pa_cons pe_str pa_nil)))))))))
    (pss_cons (ps_set (i := 2) sc__law_words.nd rfl (Or.inl rfl) (pe_ix ix_tup (pe_tup (pa_cons pe_str (pa_cons pe_str pa_nil))) (pc c_law_draw rm (by decide) gd rfl (pa_cons (pv 0) (pa_cons pe_int pa_nil))) (fun _ _ => rfl)))
    (pss_one (ps_ret (pe_tup (pa_cons (pv 2) (pa_cons (pe_ix ix_tup (pv 1) (pc c_law_draw rm (by decide) gd rfl (pa_cons (pv 0) (pa_cons pe_int pa_nil))) (fun _ _ => rfl)) (pa_cons (pe_ix ix_tup (pe_tup (pa_cons pe_str (pa_cons pe_str (pa_cons pe_str (pa_cons pe_str pa_nil))))) (pc c_law_draw rm (by decide) gd rfl (pa_cons (pv 0) (pa_cons pe_int pa_nil))) (fun _ _ => rfl)) pa_nil)))))))), ?_⟩
    walk_at "go"
    refine new (by show 7 ≤ sizeLine; decide) fun t1 H1 n1 h1 s1 => ?_
    walk_at "go"
    refine new (by show 2 ≤ sizeLine; decide) fun t2 H2 n2 h2 s2 => ?_
    walk_at "go"
    refine ⟨p, l, cells, n, 2, rfl, (pen.same s1).same s2, by omega, by decide, by decide, fun i1 H3 b0 b1 pen1 k1 => ?_⟩
    have pn : ∀ {t : Addr} {xs : List V} {m : Nat} {G : Hp}, G t = some (.tup xs) → PenC m p l cells G → t ≠ p := fun h ⟨_, _, _, _, _, z⟩ => ne_of h z (by intro y; cases y)
    have h2' := k1 _ _ h2 (pn h2 ((pen.same s1).same s2))
    have h1' := k1 _ _ (s2 _ _ h1) (pn (s2 _ _ h1) ((pen.same s1).same s2))
    obtain ⟨r, hr, er⟩ := at_strs (l := RD) b0 b1
    refine w_ixT (SqT.of h2') er ?_
    walk_at "go"
    refine ⟨p, l, cells, n + 1, 7, rfl, pen1, by omega, by decide, by decide, fun i2 H4 c0 c1 pen2 k2 => ?_⟩
    obtain ⟨wr, hw, ew⟩ := at_strs (l := WR) c0 c1
    refine w_ixT (SqT.of (k2 _ _ h1' (pn h1' pen1))) ew ?_
    walk_at "go"
    refine new (by show 4 ≤ sizeLine; decide) fun t3 H5 n5 h5 s5 => ?_
    walk_at "go"
    refine ⟨p, l, cells, n + 2, 4, rfl, pen2.same s5, by omega, by decide, by decide, fun i3 H6 e0 e1 pen3 k3 => ?_⟩
    obtain ⟨d, hd, ed⟩ := at_strs (l := DV) e0 e1
    refine w_ixT (SqT.of (k3 _ _ h5 (pn h5 (pen2.same s5)))) ed ?_
    walk_at "go"
    refine new (by show 3 ≤ sizeLine; decide) fun t7 H7 n7 h7 s7 => ?_
    have kAll : Kp p H H7 := fun b o hb nb => s7 _ _ (k3 _ _ (s5 _ _ (k2 _ _ (k1 _ _ (s2 _ _ (s1 _ _ hb)) nb) nb)) nb)
    have nt : H t7 = none := by
      cases z : H t7 with
      | none => rfl
      | some o =>
        by_cases e : t7 = p
        · obtain ⟨_, _, _, _, _, zp⟩ := pen3
          rw [e] at n7
          rw [n7] at zp
          cases zp
        · have y := k3 _ _ (s5 _ _ (k2 _ _ (k1 _ _ (s2 _ _ (s1 _ _ z)) e) e)) e
          rw [n7] at y
          cases y
    exact q t7 r wr d H7 hr hw hd nt h7 (pen3.same s7) kAll
end
def St (w : Str) (s : Int) : Prop := s = 0 ∨ s = 1 ∨ (w = "once" ∧ (s = 2 ∨ s = 3))
theorem St.four {w : Str} {s : Int} (h : St w s) : St4 s := by
  rcases h with h | h | ⟨_, h | h⟩
  · exact .inl h
  · exact .inr (.inl h)
  · exact .inr (.inr (.inl h))
  · exact .inr (.inr (.inr h))
theorem rd_eq {r : Str} {s : Int} (h : St4 s) : rdF r s = rdL r s := by
  unfold rdF rdL
  split
  · rcases h with rfl | rfl | rfl | rfl <;> decide
  · rfl
theorem dv_eq {d : Str} {s : Int} (hd : d ∈ DV) (h : St4 s) : dvF d s = dvL d s := by
  simp only [DV, List.mem_cons, List.not_mem_nil, or_false] at hd
  rcases hd with rfl | rfl | rfl | rfl <;> rcases h with rfl | rfl | rfl | rfl <;> decide +kernel
theorem wr_eq {w : Str} {s b : Int} (hw : w ∈ WR) (h : St w s) (hb : b = 0 ∨ b = 1) : awF w s b = wrL w s b := by
  by_cases e : w = "once"
  · subst e
    rcases h.four with rfl | rfl | rfl | rfl <;> rcases hb with rfl | rfl <;> decide +kernel
  · have h2 : s = 0 ∨ s = 1 := by
      rcases h with h | h | h
      · exact .inl h
      · exact .inr h
      · exact absurd h.1 e
    unfold awF wrL
    rw [if_neg e]
    rcases h2 with rfl | rfl <;> simp [Builtin.bitAnd, show Builtin.bitAnd 0 2 = 0 from by decide, show Builtin.bitAnd 0 1 = 0 from by decide, show Builtin.bitAnd 1 2 = 0 from by decide, show Builtin.bitAnd 1 1 = 1 from by decide]
end Law

set_option Elab.async false
set_option linter.all false
set_option maxRecDepth 100000
set_option maxHeartbeats 4000000
namespace Law
open PySem PySem.Spec PySem.Calls PyProof.Rows L2 KG LamX
local macro_rules | `(tactic| walk_at "1") => `(tactic| first
  | (with_reducible refine w_var rfl ?_) | (with_reducible refine w_c ?_) | (with_reducible refine w_seq ?_) | (with_reducible refine w_asg ?_) | (with_reducible refine w_gname ?_) | (with_reducible refine w_op ?_) | (with_reducible refine w_un ?_)
  | (with_reducible refine w_add ?_) | (with_reducible refine w_sub ?_) | ((with_reducible refine' w_mod ?mo ?_); (case mo => first | assumption | decide | omega)) | (with_reducible refine w_and ?_) | (with_reducible refine w_or ?_) | (with_reducible refine w_xor ?_)
  | (with_reducible refine w_gt ?_) | (with_reducible refine w_lt ?_) | (with_reducible refine w_ge ?_) | (with_reducible refine w_le ?_) | ((with_reducible refine' w_eq ?sc ?_); (case sc => rfl)) | ((with_reducible refine' w_ne ?sc ?_); (case sc => rfl))
  | (with_reducible refine w_ret ?_) | (with_reducible refine w_next ?_) | (with_reducible refine w_ifs ?_) | (with_reducible refine w_ifx ?_) | (with_reducible refine w_test ?_) | (with_reducible refine w_tB ?_) | (with_reducible refine w_bl ?_)
  | ((with_reducible refine' w_ixL ?ixh ?ixa ?_); (case ixh => first | exact SqL.of (by assumption)); (case ixa => first | rfl | skip)) | ((with_reducible refine' w_ixT ?ixh ?ixa ?_); (case ixh => first | exact SqT.of (by assumption)); (case ixa => first | rfl | skip))
  | ((with_reducible refine' w_fld ?_)) | ((with_reducible refine' fld ?fh ?fc ?fn ?fl ?_); (case fh => assumption); (case fc => assumption); (case fn => assumption); (case fl => rfl)) | (with_reducible refine w_sfld ?_)
  | (with_reducible refine Or.inl ⟨_, rfl, ?_⟩) | (with_reducible refine w_gsub ?_) | (with_reducible refine w_andV ?_) | (with_reducible refine w_orV ?_)
  | (with_reducible refine w_nil ?_) | (with_reducible refine w_cons ?_) | (with_reducible refine w_tup ?_) | (with_reducible refine w_lst ?_) | (with_reducible refine w_and2 ?_) | (with_reducible refine w_or2 ?_) | (with_reducible refine w_not ?_) | (with_reducible refine w_cb ?_) | (with_reducible refine w_call ?_) | (with_reducible refine w_par ?_) | (with_reducible refine w_pnil ?_) | (with_reducible refine w_pcons ?_) | (with_reducible refine w_dput ?_) | (with_reducible refine w_dget ?_) | (with_reducible refine w_for ?_) | (with_reducible refine w_itup ?_) | (with_reducible refine w_ilist ?_) | (with_reducible refine w_irng ?_) | (with_reducible refine w_meth ?_) | (with_reducible refine w_make ?_) | (with_reducible refine w_makeK ?_) | (with_reducible refine w_methK ?_) | ((with_reducible refine' mth ?mh ?ml ?_); (case mh => assumption); (case ml => rfl)) | (with_reducible refine w_drop ?_))
local macro_rules | `(tactic| walk_at "go") => `(tactic| ((repeat (walk_at "1")); try dsimp only))
local macro_rules | `(tactic| walk_at "1") => `(tactic| first
  | (with_reducible refine w_notV ?_) | (with_reducible refine w_callK ?_) | (with_reducible refine w_lc ?_) | (with_reducible refine w_chain ?_) | (with_reducible refine w_neg ?_) | ((with_reducible refine' w_shr ?mo ?_); (case mo => first | assumption | omega)))
def spStates : Sp := fun vs H Q _ => ∃ (t : Addr) (r w d : Str), vs = [.ref t] ∧ H t = some (.tup [.str r, .str w, .str d]) ∧ ∀ t' H', H t' = none → H' t' = some (.tup ((stN w).map V.int)) → Same H H' → Q (.ref t') H'
def spLets : Sp := fun vs H Q _ => ∃ (p l : Addr) (cells : List Int) (n : Nat) (m : Int), vs = [.ref p, .int m] ∧ PenC n p l cells H ∧ n + 60 ≤ 100000 ∧ 0 ≤ m ∧ m ≤ 40 ∧ ∀ (x : Str) H', Lets x → PenC (n + 45) p l cells H' → Kp p H H' → Q (.str x) H'
theorem app_cps (x y : Str) : (x ++ y).cps.toList = x.cps.toList ++ y.cps.toList := by
  show (x.cps ++ y.cps).toList = _
  exact Array.toList_append
theorem join_ones : ∀ cs : List Nat, (Str.join Str.empty (cs.map one)).cps.toList = cs
  | [] => rfl
  | [c] => rfl
  | c :: b :: cs => by
    show (one c ++ Str.empty ++ Str.join Str.empty ((b :: cs).map one)).cps.toList = _
    rw [app_cps, app_cps, join_ones (b :: cs)]
    rfl
theorem sum_ones : ∀ cs : List Nat, ((cs.map one).map (·.length)).sum = cs.length
  | [] => rfl
  | c :: cs => by
    rw [List.map_cons, List.map_cons, List.sum_cons, sum_ones cs, List.length_cons]
    show 1 + cs.length = cs.length + 1
    omega
def SG : List Str := ["01r", "01r", "011r", "00r", "rr01", "1r"]
theorem sg_ok : ∀ z ∈ SG, 1 ≤ z.cps.toList.length ∧ z.cps.toList.length ≤ 4 ∧ ∀ c ∈ z.cps.toList, c ∈ ("01r" : Str).cps.toList := by decide +kernel
theorem PenC.mono {n m : Nat} {p l : Addr} {cells : List Int} {H : Hp} (h : PenC n p l cells H) (hm : n ≤ m) : PenC m p l cells H := by
  obtain ⟨q, h1, x, y, z, h2⟩ := h
  exact ⟨q, h1, x, y, Nat.le_trans z hm, h2⟩
theorem PenC.ne {n : Nat} {p l D : Addr} {cells : List Int} {H : Hp} (pen : PenC n p l cells H) (nD : H D = none) : D ≠ p ∧ D ≠ l := by
  obtain ⟨_, h1, _, _, _, h2⟩ := pen
  exact ⟨(fun z => by rw [z, h2] at nD; cases nD), (fun z => by rw [z, h1] at nD; cases nD)⟩
theorem PenC.put {n : Nat} {p l D : Addr} {cells : List Int} {H : Hp} {o : HO} (pen : PenC n p l cells H) (n1 : D ≠ p) (n2 : D ≠ l) : PenC n p l cells (upd H D o) := by
  obtain ⟨q, h1, x, y, z, h2⟩ := pen
  exact ⟨q, (upd_ne n2.symm).trans h1, x, y, z, (upd_ne n1.symm).trans h2⟩
theorem w_tM1 {r : V → List V → Hp → VK → Prop} {to te : TE} {σ : L2.St} {H : Hp} {Q : VK} (q : to σ H fun x H1 => (∃ a, x = .str a) ∧ te σ H1 fun y H2 => r x [y] H2 Q) : tM1 r to te σ H Q := q
section
variable {P : Program} {w : World} {K : PySem.W.Frag} {mg : Str → Option Value} {base : Heap}
theorem ok_states (D : DefAt K mg "_law_states" s__law_states ["_law_words_here"]) : Cal P w K mg base 1 "_law_states" spStates := by
  refine D.cal sc__law_states (fun vs H Q E h => ?_) (fun f cdv A outer s H vs Q E rm gd h => ?_)
  · obtain ⟨t, r, wr, d, rfl, _⟩ := h
    rfl
  · obtain ⟨t, r, wr, d, rfl, ht, q⟩ := h
    refine ⟨_, (pss_one (ps_ret (pe_ifExp (pt_cmpR op_eq (pe_ix ix_tup (pv 0) pe_int (fun _ _ => rfl)) pe_str (nomark _)) (pe_tup (pa_cons pe_int (pa_cons pe_int (pa_cons pe_int (pa_cons pe_int pa_nil))))) (pe_tup (pa_cons pe_int (pa_cons pe_int pa_nil)))))), ?_⟩
    walk_at "go"
    by_cases e : wr = "once"
    · subst e
      refine ite2 (fun _ => ?_) fun h => absurd (by decide) h
      walk_at "go"
      refine new (show 4 ≤ sizeLine by decide) fun t' H' n h' s' => ?_
      exact q t' H' n (by unfold stN; rw [if_pos rfl]; exact h') s'
    · refine ite2 (fun h => absurd (V.str.inj (of_decide_eq_true h)) e) fun _ => ?_
      walk_at "go"
      refine new (show 2 ≤ sizeLine by decide) fun t' H' n h' s' => ?_
      exact q t' H' n (by unfold stN; rw [if_neg e]; exact h') s'
theorem ok_letters (D : DefAt K mg "_law_letters" s__law_letters ["_law_pen_here", "_law_most"]) (B : B1 mg) (c_law_draw : Cal P w K mg base 1 "_law_draw" spDraw) : Cal P w K mg base 2 "_law_letters" spLets := by
  refine D.cal (k := 1) sc__law_letters (fun vs H Q E h => ?_) (fun f cdv A outer s H vs Q E rm gd h => ?_)
  · obtain ⟨p, l, cells, n, m, rfl, _⟩ := h
    rfl
  · obtain ⟨p, l, cells, n, m, rfl, pen, hn, m0, m1, q⟩ := h
    refine ⟨_, (pss_cons (ps_set (i := 2) sc__law_letters.nd rfl (Or.inl rfl) (pe_ix ix_list (pe_lst (pa_cons (pc c_law_draw rm (by decide) gd rfl (pa_cons (pv 0) (pa_cons (pe_op op_add (pv 1) pe_int) pa_nil))) (pa_cons (pc c_law_draw rm (by decide) gd rfl (pa_cons (pv 0) (pa_cons pe_int pa_nil))) (pa_cons (pc c_law_draw rm (by decide) gd rfl (pa_cons (pv 0) (pa_cons pe_int pa_nil))) pa_nil)))) (pc c_law_draw rm (by decide) gd rfl (pa_cons (pv 0) (pa_cons pe_int pa_nil))) (fun _ _ => rfl)))
    (pss_cons (ps_set (i := 3) sc__law_letters.nd rfl (Or.inr rfl) (pe_ix ix_list (pe_lst (pa_cons pe_str (pa_cons pe_str (pa_cons pe_str (pa_cons pe_str (pa_cons pe_str (pa_cons pe_str pa_nil))))))) (pc c_law_draw rm (by decide) gd rfl (pa_cons (pv 0) (pa_cons pe_int pa_nil))) (fun _ _ => rfl)))
    (pss_one (ps_ret (pe_join pe_str (pe_lc (own := [("_law_turn", 4)]) (g := (gName 4)) (by rfl) sc__law_letters.nd (pi_range1 rfl B.g_range (pa_cons (pv 2) pa_nil)) (blkOk_by (own := [("_law_turn", 4)]) (N := ["_law_pen_here", "_law_most", "_law_size", "_law_signs", "_law_turn"]) (sc := defScope s__law_letters) (by decide +kernel)) (fun _ _ _ _ _ => (pg_name (i := 4) sc__law_letters.nd rfl (Or.inl rfl))) (fun _ _ _ _ _ => pts_nil) (fun _ _ _ _ _ => (pe_ix ix_str (pv 3) (pc c_law_draw rm (by decide) gd rfl (pa_cons (pv 0) (pa_cons (pe_callB call_len_str (by rfl) B.g_len (by decide +kernel) (pa_cons (pv 3) pa_nil)) pa_nil))) (fun _ _ => rfl))))))))), ?_⟩
    walk_at "go"
    refine ⟨p, l, cells, n, m + 1, rfl, pen, by omega, by omega, by omega, fun d1 H1 a0 a1 pen1 k1 => ?_⟩
    walk_at "go"
    refine ⟨p, l, cells, n + 1, 5, rfl, pen1, by omega, by decide, by decide, fun d2 H2 b0 b1 pen2 k2 => ?_⟩
    walk_at "go"
    refine ⟨p, l, cells, n + 2, 9, rfl, pen2, by omega, by decide, by decide, fun d3 H3 c0 c1 pen3 k3 => ?_⟩
    walk_at "go"
    refine new (show 3 ≤ sizeLine by decide) fun t4 H4 n4 h4 s4 => ?_
    walk_at "go"
    have pen4 := pen3.same s4
    refine ⟨p, l, cells, n + 3, 3, rfl, pen4, by omega, by decide, by decide, fun d5 H5 e0 e1 pen5 k5 => ?_⟩
    obtain ⟨t4p, t4l⟩ := pen3.ne n4
    have h5 := k5 _ _ h4 t4p
    obtain ⟨sz, z0, z1, ez⟩ : ∃ sz : Int, 0 ≤ sz ∧ sz ≤ 40 ∧ atI [V.int d1, V.int d2, V.int d3] d5 = some (.int sz) := by
      have h3 : d5 = 0 ∨ d5 = 1 ∨ d5 = 2 := by omega
      rcases h3 with rfl | rfl | rfl
      · exact ⟨d1, a0, by omega, rfl⟩
      · exact ⟨d2, b0, by omega, rfl⟩
      · exact ⟨d3, c0, by omega, rfl⟩
    refine w_ixL (SqL.of h5) ez ?_
    walk_at "go"
    refine new (show 6 ≤ sizeLine by decide) fun t6 H6 n6 h6 s6 => ?_
    walk_at "go"
    have pen6 := pen5.same s6
    refine ⟨p, l, cells, n + 4, 6, rfl, pen6, by omega, by decide, by decide, fun d7 H7 f0 f1 pen7 k7 => ?_⟩
    obtain ⟨t6p, t6l⟩ := pen5.ne n6
    obtain ⟨z, hz, ezz⟩ := at_strs (l := SG) f0 f1
    obtain ⟨zl, zh, zc⟩ := sg_ok z hz
    refine w_ixL (SqL.of (k7 _ _ h6 t6p)) ezz ?_
    walk_at "go"
    have kA : Kp p H H7 := fun b o hb nb => k7 _ _ (s6 _ _ (k5 _ _ (s4 _ _ (k3 _ _ (k2 _ _ (k1 _ _ hb nb) nb) nb)) nb)) nb
    refine w_tM1 ?_
    walk_at "go"
    refine ⟨⟨_, rfl⟩, ?_⟩
    walk_at "go"
    refine over_r (by omega) (by omega) ?_
    intro D nD
    have zD : Same H7 (upd H7 D (.lst [])) := fun b u e => by
      rw [upd_ne (ne_of_none e nD)]
      exact e
    obtain ⟨Dp, Dl⟩ := pen7.ne nD
    obtain ⟨szn, rfl⟩ := Int.eq_ofNat_of_zero_le z0
    have ns : ((szn : Nat) : Int).toNat = szn := Int.toNat_natCast szn
    refine lc_range (lo := 0) (n := ((szn : Nat) : Int).toNat) (fun i H' => ∃ cs : List Nat, H' D = some (.lst ((cs.map one).map V.str)) ∧ cs.length = i ∧ (∀ c ∈ cs, c ∈ ("01r" : Str).cps.toList) ∧ PenC (n + 5 + i) p l cells H' ∧ Kp p H H') ⟨[], upd_same, rfl, fun c hc => by simp at hc, pen7.same zD, fun b o hb nb => zD _ _ (kA b o hb nb)⟩ (fun i H8 hi ⟨cs, hD, hl, hc, pen8, k8⟩ => ?_) (fun H8 ⟨cs, hD, hl, hc, pen8, k8⟩ => ?_)
    · rw [ns] at hi
      walk_at "go"
      refine ⟨rfl, ?_⟩
      try unfold tYes
      refine iteT ?_
      walk_at "go"
      refine ⟨z, rfl, Nat.le_trans (show z.cps.size ≤ 4 by rw [← Array.length_toList]; exact zh) (by decide), ?_⟩
      walk_at "go"
      have hzl : (z.length : Int) = (z.cps.toList.length : Int) := by
        show ((z.cps.size : Nat) : Int) = _
        rw [Array.length_toList]
      refine ⟨p, l, cells, n + 5 + i, _, rfl, pen8, by omega, by omega, by omega, fun d9 H9 g0 g1 pen9 k9 => ?_⟩
      obtain ⟨j, rfl⟩ := Int.eq_ofNat_of_zero_le g0
      obtain ⟨c, ec⟩ : ∃ c, z.cps.toList[j]? = some c := ⟨_, List.getElem?_eq_getElem (by omega)⟩
      refine ⟨z, _, c, rfl, rfl, Nat.le_trans (show z.cps.size ≤ 4 by rw [← Array.length_toList]; exact zh) (by decide), atI_nat ec, ?_⟩
      have hD9 := k9 _ _ hD Dp
      refine ⟨_, hD9, big_of (by rw [List.length_map, List.length_map]; omega), cs ++ [c], ?_, by rw [List.length_append, hl]; rfl, fun x hx => ?_, pen9.put Dp Dl, fun b o hb nb => ?_⟩
      · rw [upd_same, List.map_append, List.map_append]
        rfl
      · rcases List.mem_append.mp hx with hx | hx
        · exact hc x hx
        · rw [List.mem_singleton.mp hx]
          exact zc c (List.mem_of_getElem? ec)
      · have nbD : b ≠ D := fun e => by
          rw [e] at hb
          have := kA _ _ hb (fun y => Dp y)
          rw [nD] at this
          cases this
        rw [upd_ne nbD]
        exact k9 _ _ (k8 _ _ hb nb) nb
    · walk_at "go"
      refine ⟨Str.empty, D, cs.map one, rfl, rfl, .inl (SqL.of hD), ?_, ?_⟩
      · rw [sum_ones]
        have : (Str.empty : Str).length = 0 := rfl
        rw [this]
        omega
      · have ex : (Txt.join Str.empty (cs.map one)).cps.toList = cs := by rw [TL.join_eq, join_ones]
        refine q _ H8 ⟨?_, fun c h => hc c (ex ▸ h)⟩ (pen8.mono (by omega)) k8
        rw [← Array.length_toList, ex]
        omega
end
end Law

set_option Elab.async false
set_option linter.all false
set_option maxRecDepth 100000
set_option maxHeartbeats 1000000
/-! KW3: a classmethod of the class, by values and keywords. -/
namespace KG
open PySem PySem.Spec PySem.Calls PyProof.Rows L2
section
variable {X : Cx} {CX : CXT} {k n : Nat} {C p g f : Addr} {mc : Value} {fd : FuncData} {ps ks : List Str} {sp : Sp} {E : XK} {o e : Expr} {es : List Expr} {kws : List Keyword} {m x : Str} {pos apos : Pos} {ta : TE} {t tk : TA} {gg : List Value → List Value → List Value} {gV : List V → List V → List V}
/-- o.m(e, .., k = v, ..), o the class, m a classmethod -/
def tCmM (C : Addr) (n j : Nat) (sp : Sp) (gV : List V → List V → List V) (E : XK) (ta : TE) (t tk : TA) : TE := fun σ H Q => ta σ H fun x H1 => x = .ref C ∧ t σ H1 fun vs H2 => tk σ H2 fun zs H3 => vs.length = n ∧ zs.length = j ∧ sp (gV (.ref C :: vs) zs) H3 Q E
theorem pe_gcmM {pl : Sem Bool} (he : PE X o ta) (r : ClX.CRead X.K C mc) (c : ClX.CMet X.K C mc m p g) (F : Gd X.prog X.w X.K X.mg X.base CX k g fd ps sp) (rm : Room k X.A) (gd : X.A.guards = some []) (hb : KBn X.K fd ps (n + 1) ks gg gV) (hx : Passes CX X E) (ha : PA X (e :: es) t) (hkw : PK X kws tk)
    (hst : starEach (e :: es) X.env = (false, eval e X.env) :: starEach es X.env := by rfl)
    (hall : (backToKw pos (keywordEach kws X.env)).all (·.1.isSome) = true := by rfl) (hks : (backToKw pos (keywordEach kws X.env)).filterMap (·.1) = ks := by rfl)
    (hpl : ((backTo pos (starEach (e :: es) X.env)).any (·.1) || (backToKw pos (keywordEach kws X.env)).any (·.1.isNone)) = false := by rfl)
    (ht : eval (.Call (.Attribute o m apos) (e :: es) kws pos) X.env = (do
      let w ← eval o X.env
      standAt apos.atName
      let (g, a) ← holding [w] (getMethod w m pl)
      callWith pos g a (backTo pos (starEach (e :: es) X.env)) (backToKw pos (keywordEach kws X.env))) := by rfl) :
    PE X (.Call (.Attribute o m apos) (e :: es) kws pos) (tCmM C n ks.length sp gV E ta t tk) := by
  refine ⟨fun pins s σ H Q I z => PySem.W.methodCall_KW (pl := pl) (thn (he.run pins s σ H _ I z) fun u s1 z1 => ?_) ht⟩
  obtain ⟨_, H1, J, ru, rfl, q⟩ := z1
  obtain rfl : u = Value.ref C := ru
  refine ClX.getmethcm_ok J r c fun s2 J2 => ?_
  refine PySem.W.callWith_of hpl (PySem.W.keeps_M (self := .ref C) c.fi) (evalArgs_kw2 hall (thn (ha.run pos _ s2 σ H1 _ J2 q) fun us s3 z3 => ?_) hst)
  obtain ⟨vs, H2, J3, rv, q2⟩ := z3
  refine thn (hkw.run pos _ s3 σ H2 _ J3 q2) fun ws s4 z4 => ?_
  obtain ⟨zs, H3, J4, rz, lv, lz, q3⟩ := z4
  refine ⟨⟨ClX.pin_at J4, J4.kIn⟩, ?_⟩
  rw [hks]
  have r1 : Vals (V.ref C :: vs) (Value.ref C :: us) := .cons rfl rv
  exact run_cm F rm gd hx J4 (hb.to s4 (.ref C :: us) ws J4.kIn (by rw [List.length_cons, ← rv.length, lv]) (rz.length.symm.trans lz)) (hb.rel r1 rz) q3
end
end KG

set_option Elab.async false
set_option linter.all false
set_option maxRecDepth 100000
set_option maxHeartbeats 1000000
/-! KOO: an own operator between two objects of one own class. -/
namespace PySem.W
open PySem PySem.Spec PySem.Calls PyProof.Rows
section
variable {prog : Program} {w : World} {A : Around} {E : Value → Shared → Prop} {s : Shared} {K : Frag} {x y C L f : Addr} {h₀ : Heap} {m : Str → Option Value} {ox oy : Obj} {od od' : Option Obj}
theorem bin_same {op : Operator} {Q : Value → Shared → Prop} (F : Fr h₀ L s.heap m) (X₀ : K.In h₀) (I : InstAt s.heap x ox C od) (J : InstAt s.heap y oy C od') (hc : selfFirst K C = true)
    (hs : findIn K (.ref C) (PySem.dunder op.info.2) = some (some (.ref f))) (hf : isFn K (.ref f) = true)
    (h : wpAny (model prog w) A (call (.ref f) [.ref x, .ref y]) (CmpBack Q) E s) : wpAny (model prog w) A (binaryOp op (.ref x) (.ref y)) Q E s := by
  have X := X₀.keeps F.keep
  obtain ⟨cd, rest, hcd, hm⟩ := ksp_first hc
  rcases hi : op.info with ⟨sym, nm'⟩
  rw [hi] at hs
  dsimp only at hs
  have one := ksp_try X I hs hf h
  obtain ⟨hh, g, d, tt, os⟩ := s
  have L1 : Looks (model prog w) hh (typeOf (.ref x)) (.ref C) := I.type
  have L2 : Looks (model prog w) hh (typeOf (.ref y)) (.ref C) := J.type
  have L3 : Looks (model prog w) hh (fillsNumberSlot (.ref C) nm') true := fills_K X hcd hm hs
  have he : (Value.ref C == Value.ref C) = true := beq_self_eq_true _
  simp only [binaryOp, hi]
  refine wpAny_holding (wpAny_bind ?_)
  unfold binaryOp1
  refine wpAny_bind (L1.at (wpAny_bind (L2.at (wpAny_bind (L3.at ?_)))))
  simp only [he, if_true]
  ksp_lk
  refine wpAny_mono one (fun r s' hr' => ?_) fun _ _ e => e
  obtain ⟨v, rfl, hq⟩ := hr'
  ksp_lk
  exact hq
end
end PySem.W
namespace KG
open PySem PySem.Spec PySem.Calls PyProof.Rows L2
section
variable {X : Cx} {CX : CXT} {k : Nat} {C f : Addr} {fd : FuncData} {ps : List Str} {sp : Sp} {E : XK}
def rOO (C : Addr) (sp : Sp) (E : XK) : R2 := fun x y H Q => ∃ (a b dx dy : Addr) (fs gs : List (Str × V)), x = .ref a ∧ y = .ref b ∧ H a = some (.ins C dx fs) ∧ H b = some (.ins C dy gs) ∧ sp [.ref a, .ref b] H Q E
theorem op_OO {op : Operator} (hc : PySem.W.selfFirst X.K C = true) (hs : PySem.W.findIn X.K (.ref C) (PySem.dunder op.info.2) = some (some (.ref f))) (hf : PySem.W.isFn X.K (.ref f) = true)
    (F : Gd X.prog X.w X.K X.mg X.base CX k f fd ps sp) (rm : Room k X.A) (gd : X.A.guards = some []) (hb : Binds X.K fd ps []) (hx : Passes CX X E) : OpR X (binaryOp op) (rOO C sp E) := by
  intro pins s σ H x y v u Q I rx ry h
  obtain ⟨a, b, dx, dy, fs, gs, rfl, rfl, ea, eb, q⟩ := h
  obtain rfl : v = Value.ref a := rx
  obtain rfl : u = Value.ref b := ry
  obtain ⟨mA, J, _⟩ := ins_get I.hok ea
  obtain ⟨od, J, _⟩ := J.look
  obtain ⟨mB, J2, _⟩ := ins_get I.hok eb
  obtain ⟨od2, J2, _⟩ := J2.look
  obtain ⟨m, fr⟩ := I.fr
  have r2 : Vals [V.ref a, .ref b] [Value.ref a, .ref b] := .cons rfl (.cons rfl .nil)
  have bt := bind_pos (dvs := []) (vs := [V.ref a, .ref b]) F hb .nil I.kIn r2 q
  refine PySem.W.bin_same fr I.ok.mod.kin J J2 hc hs hf ?_
  refine wpAny_mono (run_g (us := [.ref a, .ref b]) F rm gd hx I bt r2 q) (fun v s' hv => ?_) fun _ _ z => z
  have rv : ∃ z, RelV z v := let ⟨z, _, _, rz, _⟩ := hv; ⟨z, rz⟩
  exact rv.elim fun z rz => SlX.cmpback rz hv
end
end KG

set_option Elab.async false
set_option linter.all false
set_option maxRecDepth 100000
set_option maxHeartbeats 1000000
/-! KDT: a dict written out with one tuple as its key. -/
namespace KG
open PySem PySem.Spec PySem.Calls PyProof.Rows L2
section
variable {X : Cx} {k v : Expr} {tk tv : TE} {pos : Pos}
/-- {(..): v}; the new dict stands empty while the pair is made -/
def tDT1 (tk tv : TE) : TE := fun σ H Q => ∀ p, H p = none → tk σ (upd H p (.dT [])) fun x H1 => tv σ H1 fun y H2 => H2 p = some (.dT []) ∧ ∃ (b : Addr) (ks : List L2.Key), x = .ref b ∧ H2 b = some (.tup (ks.map kV)) ∧ Q (.ref p) (upd H2 p (.dT [(ks, y)]))
theorem pe_dT1 (hu : X.A.units + 1 < cLine) (hk : PE X k tk) (hv : PE X v tv) : PE X (.Dict [some k] [v] pos) (tDT1 tk tv) := by
  refine ⟨fun pins s σ H Q I q => ?_⟩
  have hn := I.hok.fresh (Nat.le_refl s.heap.objs.size)
  have I1 := I.laid (a := s.heap.objs.size) (o := .dT []) (h' := s.heap.push { cls := .type "dict", data := .dict #[] }) (t' := s.toks) (fun _ _ q => Heap.get?_push_of_some _ q) (Nat.le_refl _) (dt_empty s.heap I.big)
  rw [arm_eval_Dict, zip_pairTrees [some k] [v] X.env pos rfl rfl, dictDisplay_pairs (pairTrees [some k] [v] X.env pos) (by simp [pairTrees]) (by simp [pairTrees])]
  refine wpAny_bind (wpAny_standAt (wpAny_bind (wpAny_subDictH (knd := tupleKind (mixKind X.prog X.w)) (show X.A.units < cLine by omega) (by simp [pairTrees]) (pairTrees_cons_walk (thn (hk.run pins _ σ _ _ I1 (q _ hn)) fun u s1 ⟨x, H1, J1, rx, q1⟩ => thn (hv.run pins s1 σ H1 _ J1 q1) fun w2 s2 ⟨y, H2, J2, ry, q2⟩ => pairTrees_nil_walk ?_)))))
  obtain ⟨e, b, ks, ex, eb, q3⟩ := q2
  subst ex
  obtain rfl : u = Value.ref b := rx
  obtain ⟨z, hd, xs0, r0, dd⟩ := dt_of J2.hok e
  cases r0
  refine ⟨[(ks, b, w2)], ⟨rfl, rfl, key_of J2.hok eb, trivial⟩, dd, fun h' tk' dd' hs => wpAny_pure ⟨.ref s.heap.objs.size, _, ?_, rfl, q3⟩⟩
  have he : ∃ q, h'.get? s.heap.objs.size = some q := let ⟨q, _, _, hq, _⟩ := dd'; ⟨q, hq⟩
  have nb : b ≠ s.heap.objs.size := fun z => by
    rw [z, e] at eb
    cases eb
  refine d_write J2 (by rw [e]; exact True.intro) hs he ?_
  obtain ⟨o, es, ep, h1, h2, h3, h4, h5, h6⟩ := dd'
  exact ⟨by show 1 ≤ sizeLine; decide, hd, [(ks, b, w2)], .cons ⟨rfl, (upd_ne nb).trans eb, ry⟩ .nil, o, es, ep, h1, h2, h3, h4, h6⟩
end
end KG

set_option Elab.async false
set_option linter.all false
set_option maxRecDepth 100000
set_option maxHeartbeats 3200000
/-! KC3: set(t) of a tuple of whole numbers, as a value. -/
namespace KG
open PySem PySem.Spec PySem.Calls PyProof.Rows L2
section
variable {P : Program} {w : World} {A : Around} {E : Value → Shared → Prop} {s : Shared}
/-- the filling, from the tuple's iterator -/
theorem fill_fromT {B : Around} {l d : Addr} {items : Array Value} {ns : List Int} {R : Result → Shared → Prop} (hB : B.handled = none) (hit : IntsAre items.toList ns) (hb : ns.length + 1 < scanBound) (hl : s.heap.IsTuple l items)
    (hd : s.heap.get? d = some (set0 w)) (hne : d ≠ l) (h : ∀ s', Filled w s d ns s' → R (.ok (.ret .none)) s') :
    codeAny (model P w) B (.builtin "set.update.loop" ⟨[.ref d, .ref s.heap.objs.size], []⟩) R { s with heap := s.heap.push { cls := .type "tuple_iterator", data := .fields #[.ref l, .int 0 0] } } := by
  have en : items.size = ns.length := by
    have q := IntsAre.length hit
    rwa [Array.length_toList] at q
  obtain ⟨ol, hol, hol2⟩ := id hl
  have lt1 : l < s.heap.objs.size := Heap.lt_size hol
  have lt2 : d < s.heap.objs.size := Heap.lt_size hd
  have at_i : ∀ (i : Nat) (v : Value), items[i]? = some v → ∃ k t, ns[i]? = some k ∧ v = .int k t := fun i v hv => by
    have hi : i < ns.length := by rw [← en]; exact (Array.getElem?_eq_some_iff.mp hv).1
    obtain ⟨t, e⟩ := PyProof.Rows.IntsAre.int_at hit i v (by rw [Array.getElem?_toList]; exact hv)
    refine ⟨ns[i], t, List.getElem?_eq_getElem hi, ?_⟩
    rw [e, List.getD_eq_getElem?_getD, List.getElem?_eq_getElem hi] <;> rfl
  refine set_update_ints ((Walks.tuple (by simp [hB]) s.heap.objs.size l (Nat.ne_of_lt lt1) items).toS) d (by simp; exact ⟨Nat.ne_of_lt lt2, hne⟩) ns en hb at_i items.size 0 _ (by omega) (Nat.zero_le _)
    ⟨⟨_, Heap.get?_push_size _ rfl, rfl, rfl⟩, hl.push _⟩ ⟨0, Nat.le_refl 0, setR_new_at (Heap.get?_push_of_some _ hd)⟩ fun s' c m hc R1 => h s' ?_
  obtain ⟨h', g', d', tk, os'⟩ := s'
  obtain rfl : g' = s.gens := m.gens
  obtain rfl : d' = s.drawn := m.drawn
  obtain rfl : os' = s.os := m.os
  refine ⟨h', tk, c, rfl, R1, en ▸ hc, fun b o nb e => m.heap b o ?_ (Heap.get?_push_of_some _ e)⟩
  have := Heap.lt_size e
  simp only [List.mem_cons, List.not_mem_nil, or_false, not_or]
  exact ⟨nb, Nat.ne_of_lt this⟩
/-- set.__init__ on the fresh set -/
theorem init_tup {l : Addr} {items : Array Value} {ns : List Int} (hh : A.handled = none) (hit : IntsAre items.toList ns) (hb : ns.length + 1 < scanBound) (hl : s.heap.IsTuple l items) :
    codeAny (model P w) A (.call (.builtin "set.__init__") ⟨[.ref s.heap.objs.size, .ref l], []⟩) (wants (fun r s' => r = .none ∧ Filled w (laid0 w s) s.heap.objs.size ns s') E) (laid0 w s) := by
  have hS : (laid0 w s).heap.get? s.heap.objs.size = some (set0 w) := Heap.get?_push_size _ rfl
  have hT : (laid0 w s).TypeIs (.ref s.heap.objs.size) "set" := ⟨_, hS, rfl⟩
  refine codeAny_call_builtin F.called_set.init.plain F.entry_set_init (check_set_init_1 hT ?_)
  have hl1 : (laid0 w s).heap.IsTuple l items := hl.push _
  obtain ⟨⟨ocls, odict, odata, osl⟩, hol, hcl, nl, hdl⟩ := id hl
  simp only at hcl hdl
  subst hcl hdl
  have hol' := Heap.get?_push_of_some (set0 w) hol
  have e1 := F.sub_tuple_set
  have e2 := F.sub_tuple_frozenset
  have e3 : (Value.type "tuple" == Value.type "dict") = false := by decide
  have lt1 : l < s.heap.objs.size := Heap.lt_size hol
  unfold Builtin.«set.__init__» noKeywords Builtin.Frozenset.updateFrom
  generalize hPI : pyIter = PI
  wp_walk
  subst hPI
  refine wpAny_pyIter_tuple hl1 ?_
  refine wpAny_bind (wpAny_runValue (fill_fromT (s := laid0 w s) (by simp [hh]) hit hb hl1 hS (Nat.ne_of_gt lt1) fun s' f => ?_))
  show wpAny _ _ _ _ _ _
  refine wpAny_pure ?_
  show wpAny _ _ (ret Value.none) _ _ _
  exact wpAny_pure ⟨rfl, f⟩
/-- set(xs) -/
theorem set_tup {l : Addr} {items : Array Value} {ns : List Int} {Q : Value → Shared → Prop} (hh : A.handled = none) (hit : IntsAre items.toList ns) (hb : ns.length + 1 < scanBound) (hl : s.heap.IsTuple l items)
    (h : ∀ s', Filled w (laid0 w s) s.heap.objs.size ns s' → Q (.ref s.heap.objs.size) s') : wpAny (model P w) A (call (.type "set") [.ref l]) Q E s := by
  obtain ⟨c, tl, hmro⟩ := F.called_set.mro
  have k1 := F.called_set.made
  have k2 := F.called_set.sub
  have k3 := F.called_set.notType
  have k4 := F.called_set.canCreate
  have k5 := F.typeCall_set_1 (.ref l)
  refine wpAny_call (codeAny_of_tree ?_)
  show wpAny _ _ (callAny (.type "set") _) _ _ _
  refine wpAny_pure ⟨Code.quiet_builtin _ (by decide +kernel), codeAny_builtin F.entry_type_call ?_⟩
  rw [Around.under_plain (weight_type_call_type "set" [.ref l] []) rfl]
  repeat (any_goals (first | assumption | wp_step))
  refine codeAny_mono (code_set_led1 (.ref l) (E := E) (Q₁ := fun obj s₁ => obj = .ref s.heap.objs.size ∧ s₁ = laid0 w s) ⟨rfl, rfl⟩) fun r s₁ hr => ?_
  rcases r with e | (_ | _ | _ | obj)
  · exact hr
  iterate 3 exact hr.elim
  · obtain ⟨rfl, rfl⟩ := hr
    have hS : (laid0 w s).heap.get? s.heap.objs.size = some (set0 w) := Heap.get?_push_size _ rfl
    have hT : (laid0 w s).TypeIs (.ref s.heap.objs.size) "set" := ⟨_, hS, rfl⟩
    have k6 := F.called_set.init.lookup
    have k7 := F.called_set.init.bind (.ref s.heap.objs.size)
    repeat (any_goals (first | assumption | wp_step))
    refine codeAny_mono (init_tup (E := E) (by simp [hh]) hit hb hl) fun r₂ s₂ hr₂ => ?_
    rcases r₂ with e | (_ | _ | _ | r)
    · exact hr₂
    iterate 3 exact hr₂.elim
    · obtain ⟨rfl, f⟩ := hr₂
      repeat (any_goals (first | assumption | wp_step))
      exact h _ f
end
/-- set(xs), xs a tuple of whole numbers -/
def rSetT (K : PySem.W.Frag) (w : World) : List V → Hp → VK → Prop := fun xs H Q => ∃ (l : Addr) (ns : List Int), xs = [.ref l] ∧ SqT K H l (ns.map V.int) ∧ ns.length ≤ 1000 ∧ ∀ (a : Addr) (c : Nat), H a = none → c ≤ ns.length → Q (.ref a) (upd H a (SetO w a (fun j => decide (j ∈ ns)) c))
theorem cr_setT {X : Cx} (hc : X.calm = true) : CallR X (.type "set") (rSetT X.K X.w) := by
  intro pins s σ H xs us Q I r h
  obtain ⟨l, ns, rfl, hl, hb, q⟩ := h
  rw [Vals.ref1 r]
  obtain ⟨its, rv, p, hz⟩ := I.tuple hl
  have fr : H s.heap.objs.size = none := I.hok.fresh (Nat.le_refl _)
  refine set_tup (I.ok.hd hc) (ns := ns) (items := its.toArray) (by simpa using RZ.intsAre_vals rv) (by unfold scanBound; omega) p fun s' ⟨h', tk, c, e, R, hcl, k⟩ => ?_
  subst e
  have kp : ∀ b o, s.heap.get? b = some o → h'.get? b = some o := fun b o e => k b o (Nat.ne_of_lt (Heap.lt_size e)) (Heap.get?_push_of_some _ e)
  exact ⟨.ref s.heap.objs.size, upd H s.heap.objs.size (SetO X.w s.heap.objs.size (fun j => decide (j ∈ ns)) c), I.laid (t' := tk) kp (Nat.le_refl _) (setO_new R), rfl, q _ c fr hcl⟩
end KG

set_option Elab.async false
set_option linter.all false
set_option maxRecDepth 100000
set_option maxHeartbeats 3200000
/-! KB2: [e for x in a for y in b]: KB's road, its items into a list. -/
namespace KG
open PySem PySem.Spec PySem.Calls PyProof.Rows L2
section
variable {X : Cx} {elt tg iter : Expr} {gens : List Comprehension} {ifs : List Expr} {scope : Scope} {pos : Pos} {d : Nat} {acc : Value} {R : Result → Shared → Prop} {pins : List (Addr × Obj)} {J : It} {g : TG} {tt : TT} {tb : L2.St → Hp → (Hp → Prop) → Prop} {vs : List Nat}
  {σ : L2.St} {H : Hp} {Z : Hp → Prop} {s : Shared} {rest : Sem Unit} {it : Addr} {fp : List Addr} {tn : Nat → Heap → Prop}
theorem clause_runL (hx : X.xe = fun _ _ => False) (hc : X.calm = true) (ht : compTurn (.ListComp elt gens scope pos) d (.ref it) acc X.env = clTurn tg iter ifs X.env (.ref it) rest (.compLoop (.ListComp elt gens scope pos) d (.ref it) acc X.env))
    (pg : PG X tg g) (pt : PTs X ifs tt) (pr : Rest X rest tb vs) (T : Turn X.prog X.w X.K tg J fp it tn) (I : Inv X pins (wipe σ vs) H s) (st : tn 0 s.heap) (fo : ∀ b ∈ fp, FpOk X pins H b) (q : ClQ J g tt tb vs σ H Z)
    (hR : ∀ s' H', Inv X pins (wipe σ vs) H' s' → Z H' → R (.ok .next) s') : codeAny (model X.prog X.w) X.A (.compLoop (.ListComp elt gens scope pos) d (.ref it) acc X.env) R s := by
  obtain ⟨W, ⟨m0, w0⟩, turn⟩ := q
  refine codeAny_loop rfl (fun n t => ∃ i G, Inv X pins (wipe σ vs) G t ∧ tn i t.heap ∧ (∀ b ∈ fp, FpOk X pins G b) ∧ W i n G) (fun n t ht1 => ?_) m0 ⟨0, H, I, st, fo, w0⟩
  obtain ⟨i, G, I1, st1, fo1, w1⟩ := ht1
  show wpAny _ X.A ((compTurn (.ListComp elt gens scope pos) d (.ref it) acc X.env).onRaise fun x => do noteFrame x X.env; theTreesLotGoes x) _ _ t
  refine wpAny_noted ?_
  rw [ht]
  unfold clTurn
  refine wpAny_bind (wpAny_standAt (wpAny_bind ?_))
  rcases turn i n G w1 with ⟨stop, z⟩ | ⟨go, Nx, less, step⟩
  · exact thnF (T.done X rfl rfl rfl hc i pins t (wipe σ vs) G (fun _ _ => False) I1 fo1 st1 stop) fun r t2 ⟨er, I2⟩ => by
      subst er
      exact wpAny_pure (hR t2 G I2 z)
  refine thnF (T.item X rfl rfl rfl hc i pins t (wipe σ vs) G (fun _ _ => False) I1 fo1 st1 go) fun r t2 ⟨u, er, next⟩ => ?_
  subst er
  refine wpAny_bind (thnF next fun _ t3 ⟨x, G3, I3, rx, y3, st3, none3⟩ => ?_)
  have fo3 : ∀ b ∈ fp, FpOk X pins G3 b := fun b hb => ⟨none3 b hb, (fo1 b hb).2⟩
  have P3 := I3.pinned fo3 (T.obj _ _ st3)
  -- the turn is over
  have over : ∀ {τ : L2.St} {t' : Shared} {G' : Hp}, Inv X (pins ++ pinsAt fp t3.heap) τ G' t' → τ.length = (wipe σ vs).length → (∀ (j : Nat) v, (wipe σ vs)[j]? = some (some v) → τ[j]? = some (some v)) → Nx G' →
      ∃ m, m < n ∧ ∃ i G, Inv X pins (wipe σ vs) G t' ∧ tn i t'.heap ∧ (∀ b ∈ fp, FpOk X pins G b) ∧ W i m G := fun {τ t' G'} I' l k nx => by
    obtain ⟨m, lt, w'⟩ := less G' nx
    have held : ∀ b ∈ fp, ∀ o, t3.heap.get? b = some o → t'.heap.get? b = some o ∧ G' b = none := fun b hb o e => by
      have z := I'.pin (b, o) (List.mem_append_right _ (List.mem_append_right _ (mem_pinsAt hb e)))
      exact ⟨z.1, z.2.1⟩
    refine ⟨m, lt, i + 1, G', I'.unpinned.weak l.symm k, T.keep _ _ _ st3 fun b hb o e => (held b hb o e).1, fun b hb => ⟨?_, (fo1 b hb).2⟩, w'⟩
    obtain ⟨o, e, _⟩ := T.obj _ _ st3 b hb
    exact (held b hb o e).2
  have pg' := pg.run _ t3 (wipe σ vs) G3 x u _ P3 rx (step x G3 y3)
  rw [hx] at pg'
  refine wpAny_bind (thnF pg' fun _ t4 ⟨σ4, G4, I4, e4, q4⟩ => ?_)
  have pt' := pt.run _ t4 σ4 G4 _ I4 q4
  rw [hx] at pt'
  have l4 : σ4.length = (wipe σ vs).length := by rw [← e4, wipe_length]
  refine wpAny_bind (thnF pt' fun b t5 ⟨G5, I5, q5⟩ => ?_)
  cases b with
  | false => exact wpAny_pure ⟨rfl, over I5 l4 (fun j v e => by rw [← e4] at e; exact (wipe_some e).1) q5⟩
  | true =>
    refine wpAny_bind (thnF (pr _ t5 σ4 G5 Nx I5 q5) fun _ t6 ⟨σ6, G6, I6, l6, k6, q6⟩ => ?_)
    exact wpAny_pure ⟨rfl, over I6 (l6.trans l4) (fun j v e => k6 j v (by rw [e4]; exact e)) q6⟩
/-- a clause's start -/
theorem clause_startL {ce : Env} {c : Comprehension} (hg : gens[d]? = some c) (ha : c.is_async = 0) (h : codeAny (model X.prog X.w) X.A (.compLoop (.ListComp elt gens scope pos) d (.ref it) acc ce) R s) (T : Turn X.prog X.w X.K tg J fp it tn) (st : tn 0 s.heap) :
    codeAny (model X.prog X.w) X.A (.compStart (.ListComp elt gens scope pos) d (.ref it) acc ce) R s := by
  refine codeAny_of_tree ?_
  show wpAny _ _ ((compStart (.ListComp elt gens scope pos) d (.ref it) acc ce).onRaise fun x => do noteFrame x ce; standAt theWindowsPlace) _ _ s
  refine wpAny_notedAt ?_
  have hcl : (clausesOf (.ListComp elt gens scope pos))[d]? = some c := hg
  unfold compStart
  rw [hcl]
  have hn : ((some c : Option Comprehension).elim false fun x => x.is_async != 0) = false := by
    show (c.is_async != 0) = false
    rw [ha]
    rfl
  rw [hn]
  simp only [Bool.false_eq_true, if_false]
  show wpAny _ _ (ask >>= _) _ _ s
  refine wpAny_bind (wpAny_askSetting (wpAny_ite ?_))
  have last : ∀ (s' : Shared) (E' : Value → Shared → Prop), s' = s → wpAny (model X.prog X.w) X.A (again (.compLoop (.ListComp elt gens scope pos) d (.ref it) acc ce)) (fun fin s' => match fin with | .done f => R (.ok f) s' | .again c' => c'.quiet = true ∧ codeAny (model X.prog X.w) X.A c' R s') E' s' := fun s' E' e => by
    subst e
    exact wpAny_pure ⟨rfl, h⟩
  split
  · first
      | exact last _ _ rfl
      | exact wpAny_bind (last _ _ rfl)
      | exact wpAny_bind (wpAny_pure (last _ _ rfl))
  · refine wpAny_bind (wpAny_rule ?_)
    first
      | exact wpAny_bind (wpAny_standAt (wpAny_bind (T.self X.A 0 s _ _ st (last _ _ rfl))))
      | exact wpAny_bind (wpAny_bind (wpAny_standAt (wpAny_bind (T.self X.A 0 s _ _ st (last _ _ rfl)))))
/-- the last clause's rest: the item goes into the list -/
def tAppL (D : Addr) (te : TE) : L2.St → Hp → (Hp → Prop) → Prop := fun σ H Z => te σ H fun y H1 => ∃ acc : List V, H1 D = some (.lst acc) ∧ acc.length < sizeLine ∧ Z (upd H1 D (.lst (acc ++ [y])))
theorem rest_app {D : Addr} {te : TE} (hx : X.xe = fun _ _ => False) (pe : PE X elt te) : Rest X (do let _ ← call (.builtin "list.append") [.ref D, ← eval elt X.env]) (tAppL D te) vs := by
  intro ps t τ G Y I q
  have h := pe.run ps t τ G _ I q
  rw [hx] at h
  refine wpAny_bind (thnF h fun u t1 ⟨y, G1, I1, r1, acc, hD, room, z⟩ => ?_)
  refine wpAny_bind (app_ok I1 hD room r1 fun t2 I2 => ?_)
  exact wpAny_pure ⟨τ, _, I2, rfl, fun j v e => (wipe_some e).1, z⟩
theorem rest_nextL {tg1 iter1 : Expr} {ifs1 : List Expr} {wi1 : TI} {g1 : TG} {tt1 : TT} {vs1 : List Nat} {rest1 : Sem Unit} {c : Comprehension} (hx : X.xe = fun _ _ => False) (hc : X.calm = true) (hs : ∀ x, foldedSetIterable iter1 X.env x = pure x) (hg : gens[d]? = some c) (ha : c.is_async = 0)
    (ht : ∀ it, compTurn (.ListComp elt gens scope pos) d it acc X.env = clTurn tg1 iter1 ifs1 X.env it rest1 (.compLoop (.ListComp elt gens scope pos) d it acc X.env))
    (pi1 : PI X tg1 iter1 wi1) (pg : PG X tg1 g1) (pt : PTs X ifs1 tt1) (pr : Rest X rest1 tb vs1) (sub : ∀ i ∈ vs1, i ∈ vs) :
    Rest X (do
      let x ← eval iter1 X.env
      standAt iter1.pos
      let x ← foldedSetIterable iter1 X.env x
      let _ ← runOwn (.compStart (.ListComp elt gens scope pos) d (← holding [x] (pyIter x)) acc X.env) X.env) (tNext1 wi1 g1 tt1 tb vs1) vs := by
  intro ps t τ G Y I q
  have h := pi1.run ps t τ G _ I q
  rw [hx] at h
  refine wpAny_bind (thnF h fun x t1 h1 => ?_)
  refine wpAny_bind (wpAny_standAt (wpAny_bind (wpAny_of_eq (hs x) (wpAny_bind (wpAny_holding (thnF h1 fun iv t2 h2 => ?_))))))
  obtain ⟨it1, fp1, tn1, J1, G2, e, I2, T1, st2, fo2, q2⟩ := h2
  subst e
  refine wpAny_bind (wpAny_runOwn ?_)
  rw [Around.mark_none]
  have keep : ∀ (j : Nat) v, (wipe τ vs)[j]? = some (some v) → (wipe τ vs1)[j]? = some (some v) := fun j v e => by
    obtain ⟨e1, e2⟩ := wipe_some e
    rw [wipe_out fun z => e2 (sub j z)]
    exact e1
  refine codeAny_mono (R := fun r t' => r = .ok .next ∧ ∃ G', Inv X ps (wipe τ vs1) G' t' ∧ Y G') (clause_startL hg ha (clause_runL hx hc (ht _) pg pt pr T1 (I2.weak (wipe_length _ _) fun j v e => (wipe_some e).1) st2 fo2 q2 fun t' G' I' z => ⟨rfl, G', I', z⟩) T1 st2) fun r t' ⟨er, G', I', z⟩ => ?_
  subst er
  have fin : ∃ σ' H', Inv X ps σ' H' t' ∧ σ'.length = τ.length ∧ (∀ (j : Nat) v, (wipe τ vs)[j]? = some (some v) → σ'[j]? = some (some v)) ∧ Y H' := ⟨_, G', I', wipe_length _ _, keep, z⟩
  first
    | exact wpAny_pure fin
    | exact wpAny_bind (wpAny_pure (wpAny_pure fin))
end
theorem turn_outL {elt tg iter tg1 iter1 : Expr} {ifs ifs1 : List Expr} {scope : Scope} {pos : Pos} {it acc : Value} {env : Env} :
    compTurn (.ListComp elt [⟨tg, iter, ifs, 0⟩, ⟨tg1, iter1, ifs1, 0⟩] scope pos) 0 it acc env = clTurn tg iter ifs env it (do
      let x ← eval iter1 env
      standAt iter1.pos
      let x ← foldedSetIterable iter1 env x
      let _ ← runOwn (.compStart (.ListComp elt [⟨tg, iter, ifs, 0⟩, ⟨tg1, iter1, ifs1, 0⟩] scope pos) 1 (← holding [x] (pyIter x)) acc env) env) (.compLoop (.ListComp elt [⟨tg, iter, ifs, 0⟩, ⟨tg1, iter1, ifs1, 0⟩] scope pos) 0 it acc env) := by
  unfold clTurn
  simp only [bind_assoc, pure_bind]
  rfl
theorem turn_inL {elt tg iter tg1 iter1 : Expr} {ifs ifs1 : List Expr} {scope : Scope} {pos : Pos} {it acc : Value} {env : Env} :
    compTurn (.ListComp elt [⟨tg, iter, ifs, 0⟩, ⟨tg1, iter1, ifs1, 0⟩] scope pos) 1 it acc env = clTurn tg1 iter1 ifs1 env it (do let _ ← call (.builtin "list.append") [acc, ← eval elt env]) (.compLoop (.ListComp elt [⟨tg, iter, ifs, 0⟩, ⟨tg1, iter1, ifs1, 0⟩] scope pos) 1 it acc env) := by rfl
section
variable {X : Cx}
/-- [elt for tg in iter if .. for tg1 in iter1 if ..]: D the new list -/
def tLc2 (wi : TI) (g : TG) (tt : TT) (wi1 : TI) (g1 : TG) (tt1 : TT) (te : TE) (vs vs1 : List Nat) : TE := fun σ H Q => wi σ H fun J H1 => ∀ D, H1 D = none →
  ClQ J g tt (tNext1 wi1 g1 tt1 (tAppL D te) vs1) vs σ (upd H1 D (.lst [])) (Q (.ref D))
theorem pe_lc2 {elt tg iter tg1 iter1 : Expr} {ifs ifs1 : List Expr} {scope : Scope} {own : List (Str × Nat)} {vs1 : List Nat} {pos : Pos} {wi wi1 : TI} {g g1 : TG} {tt tt1 : TT} {te : TE} (hc : X.calm = true) (hN : X.N.Nodup) (hi : PI X tg iter wi) (ok : BlkOk X.N X.env.scope scope own) (sub : ∀ i ∈ vs1, i ∈ own.map (·.2))
    (pg : ∀ (s : Shared) (H : Hp) (C : Addr) (cl : List (Str × Addr)) (fp : List Addr), PG (X.blk s H scope (compEnvC scope cl C X.env) fp) tg g) (pt : ∀ (s : Shared) (H : Hp) (C : Addr) (cl : List (Str × Addr)) (fp : List Addr), PTs (X.blk s H scope (compEnvC scope cl C X.env) fp) ifs tt)
    (hi1 : ∀ (s : Shared) (H : Hp) (C : Addr) (cl : List (Str × Addr)) (fp : List Addr), PI (X.blk s H scope (compEnvC scope cl C X.env) fp) tg1 iter1 wi1)
    (pg1 : ∀ (s : Shared) (H : Hp) (C : Addr) (cl : List (Str × Addr)) (fp : List Addr), PG (X.blk s H scope (compEnvC scope cl C X.env) fp) tg1 g1) (pt1 : ∀ (s : Shared) (H : Hp) (C : Addr) (cl : List (Str × Addr)) (fp : List Addr), PTs (X.blk s H scope (compEnvC scope cl C X.env) fp) ifs1 tt1)
    (pe : ∀ (s : Shared) (H : Hp) (C : Addr) (cl : List (Str × Addr)) (fp : List Addr), PE (X.blk s H scope (compEnvC scope cl C X.env) fp) elt te) (hs : ∀ x, foldedSetIterable iter X.env x = pure x := by intro _; rfl) (hs1 : ∀ env x, foldedSetIterable iter1 env x = pure x := by intro _ _; rfl) :
    PE X (.ListComp elt [⟨tg, iter, ifs, 0⟩, ⟨tg1, iter1, ifs1, 0⟩] scope pos) (tLc2 wi g tt wi1 g1 tt1 te (own.map (·.2)) vs1) := by
  refine ⟨fun pins s σ H Q I h => ?_⟩
  have closed : ∀ y ∈ scope.names, y.2 = .free → ∃ c, X.env.cells.lookup y.1 = some c := fun y hy e => (ok.free y hy e).elim (fun k => I.ok.has _ (.inl k)) fun k => I.ok.has _ (.inr k)
  rw [eval_ListComp]
  show wpAny _ _ (comprehension (.ListComp elt [⟨tg, iter, ifs, 0⟩, ⟨tg1, iter1, ifs1, 0⟩] scope pos) scope X.env _ (newList []) _ (eval iter X.env)) _ _ s
  refine wpAny_comprehension_free (use := none) rfl hs (closure_ok closed) ok.kind (fun y hy e => by rw [ok.uniq y hy, e]) (thn (hi.run pins s σ H _ I h) fun xv t1 hx => thn hx fun iv t2 h2 => ?_)
  obtain ⟨it, fp, tn, J, H2, e, I2, T, st2, fo2, q⟩ := h2
  subst e
  refine wpAny_newObj_type (newEnv_comp ?_) (by show 0 ≤ sizeLine; decide)
  generalize hD : t2.heap.objs.size = D
  have q := q D (I2.hok.fresh (Nat.le_of_eq hD))
  generalize ht3 : ({ t2 with heap := t2.heap.push { cls := .type "list", data := .seq ([] : List Value).toArray } } : Shared) = t3
  generalize hH3 : upd H2 D (.lst []) = H3 at q
  have e3 : t3.heap = t2.heap.push { cls := .type "list", data := .seq ([] : List Value).toArray } := by rw [← ht3]
  have I3 : Inv X pins σ H3 t3 := by
    rw [← ht3, ← hH3]
    refine I2.laid (t' := t2.toks) (fun b o e => Heap.get?_push_of_some _ e) (Nat.le_of_eq hD) ⟨Nat.zero_le _, [], 0, .nil, ?_⟩
    rw [← hD]
    exact Heap.get?_push_size _ rfl
  have young : ∀ b ∈ fp, b < t2.heap.objs.size := fun b hb => by
    obtain ⟨o, e, _⟩ := T.obj _ _ st2 b hb
    exact Heap.lt_size e
  have fo3 : ∀ b ∈ fp, FpOk X pins H3 b ∧ b < t3.heap.objs.size := fun b hb => by
    have lt := young b hb
    have ne : b ≠ D := by
      rw [← hD]
      exact Nat.ne_of_lt lt
    refine ⟨⟨?_, (fo2 b hb).2⟩, by rw [e3, Heap.size_push]; exact Nat.lt_succ_of_lt lt⟩
    rw [← hH3, upd_ne ne]
    exact (fo2 b hb).1
  have I4 := block_start I3 ok hN fo3
  generalize hcl : cellsFrom (t3.heap.objs.size + 1) scope.names (cloFrom X.env.cells scope.names []) = cl at I4
  have pg := pg t3 H3 t3.heap.objs.size cl fp
  have pt := pt t3 H3 t3.heap.objs.size cl fp
  have pi1 := hi1 t3 H3 t3.heap.objs.size cl fp
  have pg1 := pg1 t3 H3 t3.heap.objs.size cl fp
  have pt1 := pt1 t3 H3 t3.heap.objs.size cl fp
  have pe := pe t3 H3 t3.heap.objs.size cl fp
  show codeAny _ _ (.compStart (.ListComp elt [⟨tg, iter, ifs, 0⟩, ⟨tg1, iter1, ifs1, 0⟩] scope pos) 0 (.ref it) (.ref D) (compEnvC scope cl t3.heap.objs.size X.env)) _ { t3 with heap := pushCells (t3.heap.push { cls := .type "dict", data := .dict #[] }) scope.names }
  generalize ht4 : ({ t3 with heap := pushCells (t3.heap.push { cls := .type "dict", data := .dict #[] }) scope.names } : Shared) = t4 at I4 ⊢
  have st4 : tn 0 t4.heap := T.keep _ _ _ st2 fun b _ o e => by
    rw [← ht4]
    exact pushCells_keeps _ _ _ _ (Heap.get?_push_of_some _ (by rw [e3]; exact Heap.get?_push_of_some _ e))
  have fo4 : ∀ b ∈ fp, FpOk (X.blk t3 H3 scope (compEnvC scope cl t3.heap.objs.size X.env) fp) [] H3 b := fun b hb =>
    ⟨(fo3 b hb).1.1, (I4.ok.exf b hb).1, I4.ok.exfs b hb, .inl hb, fun x c e => (I4.ok.exf b hb).2 x c e, fun p hp => absurd (show p ∈ ([] : List (Addr × Obj)) ++ [] from hp) (by simp)⟩
  have run := clause_runL (X := X.blk t3 H3 scope (compEnvC scope cl t3.heap.objs.size X.env) fp) (elt := elt) (gens := [⟨tg, iter, ifs, 0⟩, ⟨tg1, iter1, ifs1, 0⟩]) (scope := scope) (pos := pos) (d := 0) (acc := .ref D) (iter := iter) (R := compPost (model X.prog X.w) X.A X.xe none (EP X pins σ Q) (.ref D) t3.heap.objs.size) rfl hc turn_outL pg pt
    (rest_nextL (X := X.blk t3 H3 scope (compEnvC scope cl t3.heap.objs.size X.env) fp) (elt := elt) (gens := [⟨tg, iter, ifs, 0⟩, ⟨tg1, iter1, ifs1, 0⟩]) (scope := scope) (pos := pos) (acc := .ref D) (iter1 := iter1) (d := 1) rfl hc (hs1 _) rfl rfl (fun _ => turn_inL) pi1 pg1 pt1 (rest_app (X := X.blk t3 H3 scope (compEnvC scope cl t3.heap.objs.size X.env) fp) (D := D) rfl pe) sub) T I4 st4 fo4 q fun t5 H5 I5 z => ?_
  · exact clause_startL (X := X.blk t3 H3 scope (compEnvC scope cl t3.heap.objs.size X.env) fp) (d := 0) rfl rfl run T st4
  · have nC : H5 t3.heap.objs.size = none := I5.free
    have back : Inv X pins σ H5 t5 := I3.call' (ch := fp) I5.os I5.base I5.hok I5.bare fun b hb => ⟨(fo3 b hb).1.2.2.2.1, (fo3 b hb).1.2.1, (fo3 b hb).1.2.2.2.2.1, (fo3 b hb).1.2.2.2.2.2⟩
    obtain ⟨m, hn, _⟩ := I5.loc
    obtain ⟨f0, f1, f2, f3, f4, f5⟩ := I3.fpOk (Nat.le_refl _) nC
    refine ⟨m, hn, fun h'' sb => ?_⟩
    exact ⟨.ref D, H5, back.turned (t' := t5.toks) (fun b o hb e => (sb.2 b hb).trans e) f0 f1 f3 f4 f5, rfl, z⟩
theorem w_lc2 {wi wi1 : TI} {g g1 : TG} {tt tt1 : TT} {te : TE} {vs vs1 : List Nat} {σ : L2.St} {H : Hp} {Q : VK} (q : wi σ H fun J H1 => ∀ D, H1 D = none → ClQ J g tt (tNext1 wi1 g1 tt1 (tAppL D te) vs1) vs σ (upd H1 D (.lst [])) (Q (.ref D))) : tLc2 wi g tt wi1 g1 tt1 te vs vs1 σ H Q := q
end
end KG

set_option Elab.async false
set_option linter.all false
set_option maxRecDepth 100000
set_option maxHeartbeats 4000000
namespace Law
open PySem PySem.Spec PySem.Calls PyProof.Rows L2 KG LamX
local macro_rules | `(tactic| walk_at "1") => `(tactic| first
  | (with_reducible refine w_var rfl ?_) | (with_reducible refine w_c ?_) | (with_reducible refine w_seq ?_) | (with_reducible refine w_asg ?_) | (with_reducible refine w_gname ?_) | (with_reducible refine w_op ?_) | (with_reducible refine w_un ?_)
  | (with_reducible refine w_add ?_) | (with_reducible refine w_sub ?_) | ((with_reducible refine' w_mod ?mo ?_); (case mo => first | assumption | decide | omega)) | (with_reducible refine w_and ?_) | (with_reducible refine w_or ?_) | (with_reducible refine w_xor ?_)
  | (with_reducible refine w_gt ?_) | (with_reducible refine w_lt ?_) | (with_reducible refine w_ge ?_) | (with_reducible refine w_le ?_) | ((with_reducible refine' w_eq ?sc ?_); (case sc => rfl)) | ((with_reducible refine' w_ne ?sc ?_); (case sc => rfl))
  | (with_reducible refine w_ret ?_) | (with_reducible refine w_next ?_) | (with_reducible refine w_ifs ?_) | (with_reducible refine w_ifx ?_) | (with_reducible refine w_test ?_) | (with_reducible refine w_tB ?_) | (with_reducible refine w_bl ?_)
  | ((with_reducible refine' w_ixL ?ixh ?ixa ?_); (case ixh => first | exact SqL.of (by assumption)); (case ixa => first | rfl | skip)) | ((with_reducible refine' w_ixT ?ixh ?ixa ?_); (case ixh => first | exact SqT.of (by assumption)); (case ixa => first | rfl | skip))
  | ((with_reducible refine' w_fld ?_)) | ((with_reducible refine' fld ?fh ?fc ?fn ?fl ?_); (case fh => assumption); (case fc => assumption); (case fn => assumption); (case fl => rfl)) | (with_reducible refine w_sfld ?_)
  | (with_reducible refine Or.inl ⟨_, rfl, ?_⟩) | (with_reducible refine w_gsub ?_) | (with_reducible refine w_andV ?_) | (with_reducible refine w_orV ?_)
  | (with_reducible refine w_nil ?_) | (with_reducible refine w_cons ?_) | (with_reducible refine w_tup ?_) | (with_reducible refine w_lst ?_) | (with_reducible refine w_and2 ?_) | (with_reducible refine w_or2 ?_) | (with_reducible refine w_not ?_) | (with_reducible refine w_cb ?_) | (with_reducible refine w_call ?_) | (with_reducible refine w_par ?_) | (with_reducible refine w_pnil ?_) | (with_reducible refine w_pcons ?_) | (with_reducible refine w_dput ?_) | (with_reducible refine w_dget ?_) | (with_reducible refine w_for ?_) | (with_reducible refine w_itup ?_) | (with_reducible refine w_ilist ?_) | (with_reducible refine w_irng ?_) | (with_reducible refine w_meth ?_) | (with_reducible refine w_make ?_) | (with_reducible refine w_makeK ?_) | (with_reducible refine w_methK ?_) | ((with_reducible refine' mth ?mh ?ml ?_); (case mh => assumption); (case ml => rfl)) | (with_reducible refine w_drop ?_))
local macro_rules | `(tactic| walk_at "go") => `(tactic| ((repeat (walk_at "1")); try dsimp only))
local macro_rules | `(tactic| walk_at "1") => `(tactic| first
  | (with_reducible refine w_notV ?_) | (with_reducible refine w_callK ?_) | (with_reducible refine w_lc ?_) | (with_reducible refine w_chain ?_) | (with_reducible refine w_neg ?_) | ((with_reducible refine' w_shr ?mo ?_); (case mo => first | assumption | omega)))
theorem iteNo {c : Bool} {A B : Prop} (h : c = false) (q : B) : if c = true then A else B := by rw [h]; exact q
theorem iteYs {c : Bool} {A B : Prop} (h : c = true) (q : A) : if c = true then A else B := by rw [h]; exact q
/-- two effects of the same words -/
def spSK (C CE : Addr) : Sp := fun vs H Q _ => ∃ (e e' k k' : Addr) (r w d : Str) (F F' : List (List Int)), vs = [.ref e, .ref e'] ∧ EffAt C CE H e k r w d F ∧ EffAt C CE H e' k' r w d F' ∧ Q .non H
def spMul (C CE : Addr) : Sp := fun vs H Q _ => ∃ (e e' k k' : Addr) (r w d : Str) (F F' : List (List Int)), vs = [.ref e, .ref e'] ∧ EffAt C CE H e k r w d F ∧ EffAt C CE H e' k' r w d F' ∧ Rw (stN w).length F ∧ Rw (stN w).length F' ∧ ∀ e2 H', H e2 = none → EffAt C CE H' e2 k r w d (joinR F F') → Same H H' → Q (.ref e2) H'
section
variable {P : Program} {w : World} {K : PySem.W.Frag} {mg : Str → Option Value} {base : Heap} {C CE aW aI : Addr} {mc : Value}
theorem ok_sk (D : DefAt K mg "check_same_kind" s_check_same_kind ["a", "b"]) (TE : ET K mg CE) (T : KT K w mg C aW aI mc) {fE : Addr} {fdE : FuncData}
    (FEQ : Gd P w K mg base CX0 1 fE fdE ["self", "other"] (spEQ C)) (bEQ : Binds K fdE ["self", "other"] []) (eqI : PySem.W.findIn K (.ref C) "__eq__" = some (some (.ref fE))) (eqF : PySem.W.isFn K (.ref fE) = true) (neI : PySem.W.findIn K (.ref C) "__ne__" = some (some (.builtin "object.__ne__"))) (nfC : PySem.W.notFirst K C (.ref C) = true) :
    Cal P w K mg base 3 "check_same_kind" (spSK C CE) := by
  refine D.cal (k := 2) sc_check_same_kind (fun vs H Q E h => ?_) (fun f cdv A outer s0 H vs Q E rm gd h => ?_)
  · obtain ⟨e, e', k, k', r, wr, d, F, F', rfl, _⟩ := h
    rfl
  · obtain ⟨e, e', k, k', r, wr, d, F, F', rfl, ⟨dx, t, h1, h2, h3⟩, ⟨dx', t', h1', h2', h3'⟩, q⟩ := h
    have cl := TE.cl
    have nK := TE.nK
    refine ⟨_, (pss_one (ps_if (pt_cmpR (op_neO FEQ (rm.mono (by decide)) gd eqI eqF neI T.isM bEQ pass0) (pe_fld (pv 0) rfl) (pe_fld (pv 1) rfl) (nomark _))
      (pss_one ps_never)
      pss_nil)), ?_⟩
    obtain ⟨dk, sk, hk1, _⟩ := id h2
    walk_at "go"
    refine ⟨k, dk, _, .ref C, rfl, hk1, ty_kind T h2', nfC, k, k', r, wr, d, r, wr, d, rfl, h2, h2', _, rfl, _, rfl, ?_⟩
    refine iteNo (by simp) ?_
    exact q
theorem ok_mul {f fT : Addr} {fdT : FuncData} (D : MetAt K CE "__mul__" "Effect.__mul__" s_Effect___mul__ ["self", "other"] f) (TE : ET K mg CE) (ccheck_same_kind : Cal P w K mg base 3 "check_same_kind" (spSK C CE)) (cjoined : Cal P w K mg base 1 "joined" spJoin)
    (ME : Mk K CE fT) (FEI : Gd P w K mg base CX0 1 fT fdT ["self", "kind", "ends"] (spEI CE)) (bEI : Binds K fdT ["self", "kind", "ends"] []) :
    ∃ fd, Meth K CE "__mul__" f ∧ Fun K "__mul__" "Effect.__mul__" s_Effect___mul__ f fd ∧ Binds K fd ["self", "other"] [] ∧ Gd P w K mg base CX0 4 f fd ["self", "other"] (spMul C CE) := by
  refine D.gd (k := 3) sc_Effect___mul__ (fun vs H Q E h => ?_) (fun cdv A outer s H vs Q E rm gd h => ?_)
  · obtain ⟨e, e', k, k', r, wr, d, F, F', rfl, _⟩ := h
    rfl
  · obtain ⟨e, e', k, k', r, wr, d, F, F', rfl, he, he', rF, rF', q⟩ := h
    obtain ⟨dx, t, h1, h2, h3⟩ := id he
    obtain ⟨dx', t', h1', h2', h3'⟩ := id he'
    have cl := TE.cl
    have nK := TE.nK
    have nE := TE.nE
    refine ⟨_, (pss_cons (ps_expr (pc ccheck_same_kind rm (by decide) gd rfl (pa_cons (pv 0) (pa_cons (pv 1) pa_nil))))
    (pss_one (ps_ret (pe_gmake ME FEI (rm.mono (by decide)) gd rfl TE.g_Effect bEI .nil pass0 (pa_cons (pe_fld (pv 0) rfl) (pa_cons (pc cjoined rm (by decide) gd rfl (pa_cons (pe_fld (pv 0) rfl) (pa_cons (pe_fld (pv 1) rfl) pa_nil))) pa_nil)))))), ?_⟩
    walk_at "go"
    refine ⟨e, e', k, k', r, wr, d, F, F', rfl, he, he', ?_⟩
    walk_at "go"
    refine ⟨t, t', F, F', _, rfl, h3, h3', rF, rF', stN_len wr, fun t2 H2 n2 h2j s2 => ?_⟩
    walk_at "go"
    refine make fun y dy H9 ny hy sy => ?_
    refine ⟨y, dy, k, t2, rfl, hy, fun H10 h10 e10 => ⟨rfl, ?_⟩⟩
    have sA : Same H2 H10 := fun b u z => (e10 b (ne_of_none z ny)).trans (sy _ _ z)
    exact q y H10 (back s2 ny) ⟨dy, t2, h10, (h2.sm s2).sm sA, h2j.same sA⟩ (s2.trans sA)
end
theorem eqv_ints : ∀ ns ms : List Int, PyData.eqvAll (ns.map PyData.int) (ms.map PyData.int) = decide (ns = ms)
  | [], [] => by simp [PyData.eqvAll]
  | [], _ :: _ => by simp [PyData.eqvAll]
  | _ :: _, [] => by simp [PyData.eqvAll]
  | a :: ns, b :: ms => by
    have ih := eqv_ints ns ms
    simp only [List.map_cons, PyData.eqvAll, PyData.eqv, ih, List.cons.injEq]
    by_cases h : a = b <;> by_cases h2 : ns = ms <;> simp [h, h2]
theorem eqv_rows (F G : List (List Int)) : PyData.eqv (rowsD F) (rowsD G) = decide (F = G) := by
  have key : ∀ F G : List (List Int), PyData.eqvAll (F.map fun r => .tuple (r.map PyData.int)) (G.map fun r => .tuple (r.map PyData.int)) = decide (F = G) := by
    intro F
    induction F with
    | nil =>
      intro G
      cases G <;> simp [PyData.eqvAll]
    | cons e F ih =>
      intro G
      cases G with
      | nil => simp [PyData.eqvAll]
      | cons g G =>
        simp only [List.map_cons, PyData.eqvAll, PyData.eqv, eqv_ints, ih G, List.cons.injEq]
        by_cases h : e = g <;> by_cases h2 : F = G <;> simp [h, h2]
  unfold rowsD
  simp only [PyData.eqv]
  exact key F G
theorem join_getD (G H : List (List Int)) (l : Nat) : (joinR G H).getD l [] = pick fun k => (G.getD l []).any fun m => (H.getD m.toNat []).contains k := by
  unfold joinR
  rw [List.getD_eq_getElem?_getD, List.getD_eq_getElem?_getD, List.getElem?_map]
  cases G[l]? with
  | some e => rfl
  | none => rfl
theorem join_mem {G H : List (List Int)} {l : Nat} {k : Int} : k ∈ (joinR G H).getD l [] ↔ (0 ≤ k ∧ k < 4) ∧ ∃ m ∈ G.getD l [], k ∈ H.getD m.toNat [] := by
  rw [join_getD, pick_mem, List.any_eq_true]
  simp only [List.contains_iff_mem]
def In4 (F : List (List Int)) : Prop := ∀ l : Nat, ∀ m ∈ F.getD l [], 0 ≤ m ∧ m < 4
theorem Rw.in4 {n : Nat} {F : List (List Int)} (h : Rw n F) (n4 : n ≤ 4) : In4 F := fun l m hm => by
  rw [List.getD_eq_getElem?_getD] at hm
  cases z : F[l]? with
  | none => rw [z] at hm; cases hm
  | some e =>
    rw [z] at hm
    have := h.bd e (List.mem_of_getElem? z) m hm
    omega
theorem join_assoc (F : List (List Int)) {G H : List (List Int)} (hG : In4 G) : joinR (joinR F G) H = joinR F (joinR G H) := by
  have e : ∀ F : List (List Int), joinR F (joinR G H) = F.map fun e => pick fun k => e.any fun m => ((joinR G H).getD m.toNat []).contains k := fun _ => rfl
  rw [e]
  unfold joinR
  rw [List.map_map]
  refine List.map_congr_left fun e _ => ?_
  refine asc_uniq (pick_asc _) (pick_asc _) fun k => ?_
  show k ∈ (pick fun k => (pick fun k => e.any fun m => (G.getD m.toNat []).contains k).any fun m => (H.getD m.toNat []).contains k) ↔ k ∈ pick fun k => e.any fun m => ((joinR G H).getD m.toNat []).contains k
  rw [pick_mem, pick_mem, List.any_eq_true, List.any_eq_true]
  simp only [pick_mem, List.contains_iff_mem, List.any_eq_true, join_mem]
  constructor
  · rintro ⟨h4, m, ⟨_, l, hl, hm⟩, hk⟩
    exact ⟨h4, l, hl, h4, m, hm, hk⟩
  · rintro ⟨h4, l, hl, _, m, hm, hk⟩
    exact ⟨h4, m, ⟨hG _ m hm, l, hl, hm⟩, hk⟩
theorem betw_idem0 : ∀ w ∈ WR, ∀ d ∈ DV, joinR (betw true w d) (betw true w d) = betw true w d ∧ joinR (betw false w d) (betw false w d) = betw false w d := by decide +kernel
theorem betw_idem {q : Bool} {w d : Str} (hw : w ∈ WR) (hd : d ∈ DV) : joinR (betw q w d) (betw q w d) = betw q w d := by
  cases q
  · exact (betw_idem0 w hw d hd).2
  · exact (betw_idem0 w hw d hd).1
theorem snoc_ind {α : Type} {p : List α → Prop} (h0 : p []) (h1 : ∀ l x, p l → p (l ++ [x])) (l : List α) : p l := by
  have : ∀ l : List α, p l.reverse := by
    intro l
    induction l with
    | nil => exact h0
    | cons x l ih =>
      rw [List.reverse_cons]
      exact h1 _ _ ih
  have h := this l.reverse
  rwa [List.reverse_reverse] at h
theorem of_betw {q : Bool} {r w d : Str} (kd : Kd r w d) (cs : List Nat) : joinR (ofR q r w d cs) (betw q w d) = ofR q r w d cs := by
  have n4 := stN_len w
  have b4 : In4 (betw q w d) := (betw_rw kd.2.1 kd.2.2).in4 n4
  refine snoc_ind (p := fun cs => joinR (ofR q r w d cs) (betw q w d) = ofR q r w d cs) (betw_idem kd.2.1 kd.2.2) (fun l c _ => ?_) cs
  rw [ofR_snoc]
  unfold stepR
  rw [join_assoc _ b4, betw_idem kd.2.1 kd.2.2]
/-- letters put together -/
theorem of_app {q : Bool} {r w d : Str} (kd : Kd r w d) (cs ds : List Nat) (hd : ∀ c ∈ ds, c ∈ ("01r" : Str).cps.toList) : joinR (ofR q r w d cs) (ofR q r w d ds) = ofR q r w d (cs ++ ds) := by
  have n4 := stN_len w
  have b4 : In4 (betw q w d) := (betw_rw kd.2.1 kd.2.2).in4 n4
  refine snoc_ind (p := fun ds => (∀ c ∈ ds, c ∈ ("01r" : Str).cps.toList) → joinR (ofR q r w d cs) (ofR q r w d ds) = ofR q r w d (cs ++ ds)) (fun _ => ?_) (fun l c ih hl => ?_) ds hd
  · rw [List.append_nil]
    exact of_betw kd cs
  · have hl' : ∀ c ∈ l, c ∈ ("01r" : Str).cps.toList := fun x hx => hl x (List.mem_append_left _ hx)
    have hc := sign_of (hl c (List.mem_append_right _ List.mem_cons_self))
    have rl : Rw (stN w).length (ofR q r w d l) := ofR_rw kd l hl' _ (betw_rw kd.2.1 kd.2.2)
    have l4 : In4 (letR r w (one c)) := (letR_rw kd.1 kd.2.1 hc).in4 n4
    rw [ofR_snoc, ← List.append_assoc, ofR_snoc]
    unfold stepR
    rw [← join_assoc _ ((rl.joinR (letR_rw kd.1 kd.2.1 hc)).in4 n4), ← join_assoc _ (rl.in4 n4), ih hl']
end Law

set_option Elab.async false
set_option linter.all false
set_option maxRecDepth 100000
set_option maxHeartbeats 4000000
namespace Law
open PySem PySem.Spec PySem.Calls PyProof.Rows L2 KG LamX
local macro_rules | `(tactic| walk_at "1") => `(tactic| first
  | (with_reducible refine w_var rfl ?_) | (with_reducible refine w_c ?_) | (with_reducible refine w_seq ?_) | (with_reducible refine w_asg ?_) | (with_reducible refine w_gname ?_) | (with_reducible refine w_op ?_) | (with_reducible refine w_un ?_)
  | (with_reducible refine w_add ?_) | (with_reducible refine w_sub ?_) | ((with_reducible refine' w_mod ?mo ?_); (case mo => first | assumption | decide | omega)) | (with_reducible refine w_and ?_) | (with_reducible refine w_or ?_) | (with_reducible refine w_xor ?_)
  | (with_reducible refine w_gt ?_) | (with_reducible refine w_lt ?_) | (with_reducible refine w_ge ?_) | (with_reducible refine w_le ?_) | ((with_reducible refine' w_eq ?sc ?_); (case sc => rfl)) | ((with_reducible refine' w_ne ?sc ?_); (case sc => rfl))
  | (with_reducible refine w_ret ?_) | (with_reducible refine w_next ?_) | (with_reducible refine w_ifs ?_) | (with_reducible refine w_ifx ?_) | (with_reducible refine w_test ?_) | (with_reducible refine w_tB ?_) | (with_reducible refine w_bl ?_)
  | ((with_reducible refine' w_ixL ?ixh ?ixa ?_); (case ixh => first | exact SqL.of (by assumption)); (case ixa => first | rfl | skip)) | ((with_reducible refine' w_ixT ?ixh ?ixa ?_); (case ixh => first | exact SqT.of (by assumption)); (case ixa => first | rfl | skip))
  | ((with_reducible refine' w_fld ?_)) | ((with_reducible refine' fld ?fh ?fc ?fn ?fl ?_); (case fh => assumption); (case fc => assumption); (case fn => assumption); (case fl => rfl)) | (with_reducible refine w_sfld ?_)
  | (with_reducible refine Or.inl ⟨_, rfl, ?_⟩) | (with_reducible refine w_gsub ?_) | (with_reducible refine w_andV ?_) | (with_reducible refine w_orV ?_)
  | (with_reducible refine w_nil ?_) | (with_reducible refine w_cons ?_) | (with_reducible refine w_tup ?_) | (with_reducible refine w_lst ?_) | (with_reducible refine w_and2 ?_) | (with_reducible refine w_or2 ?_) | (with_reducible refine w_not ?_) | (with_reducible refine w_cb ?_) | (with_reducible refine w_call ?_) | (with_reducible refine w_par ?_) | (with_reducible refine w_pnil ?_) | (with_reducible refine w_pcons ?_) | (with_reducible refine w_dput ?_) | (with_reducible refine w_dget ?_) | (with_reducible refine w_for ?_) | (with_reducible refine w_itup ?_) | (with_reducible refine w_ilist ?_) | (with_reducible refine w_irng ?_) | (with_reducible refine w_meth ?_) | (with_reducible refine w_make ?_) | (with_reducible refine w_makeK ?_) | (with_reducible refine w_methK ?_) | ((with_reducible refine' mth ?mh ?ml ?_); (case mh => assumption); (case ml => rfl)) | (with_reducible refine w_drop ?_))
local macro_rules | `(tactic| walk_at "go") => `(tactic| ((repeat (walk_at "1")); try dsimp only))
local macro_rules | `(tactic| walk_at "1") => `(tactic| first
  | (with_reducible refine w_notV ?_) | (with_reducible refine w_callK ?_) | (with_reducible refine w_lc ?_) | (with_reducible refine w_chain ?_) | (with_reducible refine w_neg ?_) | ((with_reducible refine' w_shr ?mo ?_); (case mo => first | assumption | omega)))
/-! ### a bit of a kind -/
abbrev pf (s : Int) : List (Str × V) := [("_state", .int s)]
abbrev pk (s : Int) (k : Addr) : List (Str × V) := [("_state", .int s), ("kind", .ref k)]
def Dom (w : Str) (s : Int) : Prop := (s = 0 ∨ s = 1) ∨ (w = "once" ∧ (s = 2 ∨ s = 3))
theorem Dom.st {w : Str} {s : Int} (h : Dom w s) : St4 s := by
  unfold St4
  rcases h with h | ⟨_, h⟩ <;> omega
def BitK (C KB : Addr) (H : Hp) (a k : Addr) (r w d : Str) (s : Int) : Prop := ∃ dx, H a = some (.ins KB dx (pk s k)) ∧ KindAt C H k r w d ∧ Dom w s
theorem BitK.sm {C KB a k : Addr} {H H' : Hp} {r w d : Str} {s : Int} (h : BitK C KB H a k r w d s) (z : Same H H') : BitK C KB H' a k r w d s := by
  obtain ⟨dx, h1, h2, h3⟩ := h
  exact ⟨dx, z _ _ h1, h2.sm z, h3⟩
theorem KindAt.kpA {C KB a k dx : Addr} {fs : List (Str × V)} {H H' : Hp} {r w d : Str} (h : KindAt C H k r w d) (ha : H a = some (.ins KB dx fs)) (ne : KB ≠ C) (c : Kp a H H') : KindAt C H' k r w d := by
  obtain ⟨dy, st, h1, h2⟩ := h
  refine ⟨dy, st, c _ _ h1 fun z => ?_, c _ _ h2 fun z => ?_⟩
  · rw [z, ha] at h1
    cases h1
    exact ne rfl
  · rw [z, ha] at h2
    cases h2
theorem Kp.of {a : Addr} {H H' : Hp} (e : ∀ b, b ≠ a → H' b = H b) : Kp a H H' := fun b o h n => (e b n).trans h
def deB (d : Str) (s : Int) : Bool := inV (.int (Builtin.bitAnd s 1)) (invL d)
def deF (d : Str) (s : Int) : Int := if deB d s = true then Builtin.bitXor s 1 else s
theorem dom_rd {r w : Str} {s : Int} (dm : Dom w s) : Dom w (rdF r s) := by
  unfold rdF
  split
  · rcases dm with (rfl | rfl) | ⟨e, rfl | rfl⟩
    · exact .inl (.inl (by decide))
    · exact .inl (.inl (by decide))
    · exact .inr ⟨e, .inl (by decide)⟩
    · exact .inr ⟨e, .inl (by decide)⟩
  · exact dm
theorem dom_aw {w : Str} {s i : Int} (dm : Dom w s) (hw : w ∈ WR) (hi : i = 0 ∨ i = 1) : Dom w (awF w s i) := by
  unfold WR at hw
  simp only [List.mem_cons, List.not_mem_nil, or_false] at hw
  unfold Dom at *
  rcases hw with rfl | rfl | rfl | rfl | rfl | rfl | rfl <;> rcases dm with (rfl | rfl) | ⟨e, rfl | rfl⟩ <;> rcases hi with rfl | rfl <;> first | decide +kernel | exact absurd e (by decide)
structure KBT (K : PySem.W.Frag) (mg : Str → Option Value) (KB : Addr) : Prop where
  g : mg "KindBit" = some (.ref KB)
  cl : Cls K KB
  nS : NoAttr K KB "_state"
  nK : NoAttr K KB "kind"
def spI1 : Sp := fun vs H Q _ => ∃ i : Int, vs = [.int i] ∧ Q (.bl true) H
def spF1 : Sp := fun vs H Q _ => vs = [.int 1] ∧ Q (.int 1) H
def spW1 : Sp := fun vs H Q _ => ∃ i : Int, vs = [.int i, .int 1] ∧ (i = 0 ∨ i = 1) ∧ Q (.bl true) H
def spC1 : Sp := fun vs H Q _ => ∃ i : Int, vs = [.int i, .int 1] ∧ (i = 0 ∨ i = 1) ∧ Q .non H
def spNow (KB : Addr) : Sp := fun vs H Q _ => ∃ a dx fs s, vs = [.ref a] ∧ H a = some (.ins KB dx fs) ∧ fs.lookup ("_state" : Str) = some (.int s) ∧ Q (.int (Builtin.bitAnd s 1)) H
def spSta (KB : Addr) : Sp := fun vs H Q _ => ∃ a dx fs s, vs = [.ref a] ∧ H a = some (.ins KB dx fs) ∧ fs.lookup ("_state" : Str) = some (.int s) ∧ Q (.int s) H
def spRd (C KB : Addr) : Sp := fun vs H Q _ => ∃ a k r w d s, vs = [.ref a] ∧ BitK C KB H a k r w d s ∧ Kd r w d ∧ ∀ H', BitK C KB H' a k r w d (rdF r s) → Kp a H H' → Q (.int (Builtin.bitAnd s 1)) H'
def spWr (C KB : Addr) : Sp := fun vs H Q _ => ∃ a k r w d s b, vs = [.ref a, .int b] ∧ BitK C KB H a k r w d s ∧ Kd r w d ∧ (b = 0 ∨ b = 1) ∧ ∀ H', BitK C KB H' a k r w d (awF w s b) → Kp a H H' → Q .non H'
def spDd (C KB : Addr) : Sp := fun vs H Q _ => ∃ a k r w d s, vs = [.ref a] ∧ BitK C KB H a k r w d s ∧ Kd r w d ∧ ∀ H', BitK C KB H' a k r w d (deF d s) → Kp a H H' → Q (.bl (deB d s)) H'
def spB0 (KB : Addr) : Sp := fun vs H Q _ => ∃ (a dx : Addr) (b : Int), vs = [.ref a, .int b] ∧ H a = some (.ins KB dx []) ∧ (b = 0 ∨ b = 1) ∧ ∀ H', H' a = some (.ins KB dx (pf b)) → Kp a H H' → Q .non H'
def spK0 (KB : Addr) : Sp := fun vs H Q _ => ∃ (a k dx : Addr) (b : Int), vs = [.ref a, .ref k, .int b] ∧ H a = some (.ins KB dx []) ∧ (b = 0 ∨ b = 1) ∧ ∀ H', H' a = some (.ins KB dx (pk b k)) → Kp a H H' → Q .non H'
theorem Kp.trans {a : Addr} {H H1 H2 : Hp} (x : Kp a H H1) (y : Kp a H1 H2) : Kp a H H2 := fun b o h n => y b o (x b o h n) n
theorem Gd.up {P : Program} {w : World} {K : PySem.W.Frag} {mg : Str → Option Value} {base : Heap} {CX : CXT} {k : Nat} {f : Addr} {fd : FuncData} {ps : List Str} {sp : Sp} (F : Gd P w K mg base CX0 k f fd ps sp) : Gd P w K mg base CX k f fd ps sp :=
  ⟨F.len, fun A o s H a us vs Q E rm gd e0 bt rv q => codeAny_mono (F.go A o s H a us vs Q E rm gd e0 bt rv q) fun out s' h => by
    match out, h with
    | .ok (.ret u), h => exact h
    | .error e, h => exact False.elim h⟩
theorem pass_no {X : Cx} : Passes (L2.CX X.prog X.w) X (fun _ _ _ => False) := fun _ _ _ _ _ _ _ h => by
  obtain ⟨_, _, _, _, _, _, _, _, _, _, _, _, z⟩ := h
  exact z.elim
section
variable {P : Program} {w : World} {K : PySem.W.Frag} {mg : Str → Option Value} {base : Heap} {C KB aW aI : Addr} {mc : Value} {f : Addr} {fd : FuncData}
theorem ok_is_int (D : DefAt K mg "is_int" s_is_int ["value"]) (B : B1 mg) (gBool : mg "bool" = none) : Cal P w K mg base 1 "is_int" spI1 := by
  refine D.cal sc_is_int (fun vs H Q E h => ?_) (fun f cdv A outer s H vs Q E rm gd h => ?_)
  · obtain ⟨i, rfl, _⟩ := h
    rfl
  · obtain ⟨i, rfl, q⟩ := h
    refine ⟨_, (pss_one (ps_ret (pe_and (pe_callB call_isi (by rfl) B.g_isinstance (by decide +kernel) (pa_cons (pv 0) (pa_cons (pe_bltn (v := .ty "int") rfl B.g_int (by decide +kernel) rfl) pa_nil))) (pe_one (pe_not (pe_callB call_isi (by rfl) B.g_isinstance (by decide +kernel) (pa_cons (pv 0) (pa_cons (pe_bltn (v := .ty "bool") rfl gBool (by decide +kernel) rfl) pa_nil)))))))), ?_⟩
    walk_at "go"
    refine ⟨.int i, .ty "int", .type "int", .type "int", true, rfl, .ty _, .base (.int i), kit_ty (show kitB "int" "int" = some true by decide +kernel), _, rfl, ?_⟩
    refine iteT ?_
    walk_at "go"
    exact ⟨.int i, .ty "bool", .type "int", .type "bool", false, rfl, .ty _, .base (.int i), kit_ty (show kitB "int" "bool" = some false by decide +kernel), _, rfl, q⟩
theorem ok_full_word (D : DefAt K mg "full_word" s_full_word ["size"]) : Cal P w K mg base 1 "full_word" spF1 := by
  refine D.cal sc_full_word (fun vs H Q E h => ?_) (fun f cdv A outer s H vs Q E rm gd h => ?_)
  · obtain ⟨rfl, _⟩ := h
    rfl
  · obtain ⟨rfl, q⟩ := h
    refine ⟨_, (pss_one (ps_ret (pe_op op_sub (pe_op op_shl pe_int (pv 0)) pe_int))), ?_⟩
    walk_at "go"
    refine w_shl ⟨by decide, by decide, by decide⟩ ?_
    walk_at "go"
    exact q
theorem ok_is_word (D : DefAt K mg "is_word" s_is_word ["value", "size"]) (cis_int : Cal P w K mg base 1 "is_int" spI1) (cfull_word : Cal P w K mg base 1 "full_word" spF1) : Cal P w K mg base 2 "is_word" spW1 := by
  refine D.cal sc_is_word (fun vs H Q E h => ?_) (fun f cdv A outer s H vs Q E rm gd h => ?_)
  · obtain ⟨i, rfl, _⟩ := h
    rfl
  · obtain ⟨i, rfl, hi, q⟩ := h
    refine ⟨_, (pss_one (ps_ret (pe_and (pc cis_int rm (by decide) gd rfl (pa_cons (pv 0) pa_nil)) (pe_one (pe_chain op_le op_le pe_int (pv 0) (pc cfull_word rm (by decide) gd rfl (pa_cons (pv 1) pa_nil))))))), ?_⟩
    walk_at "go"
    refine ⟨i, rfl, _, rfl, ?_⟩
    refine iteT ?_
    walk_at "go"
    rw [decide_eq_true (show (0 : Int) ≤ i by omega)]
    refine iteT ?_
    walk_at "go"
    refine ⟨rfl, ?_⟩
    walk_at "go"
    rw [decide_eq_true (show i ≤ (1 : Int) by omega)]
    exact q
theorem ok_check_word (D : DefAt K mg "check_word" s_check_word ["value", "size"]) (cis_word : Cal P w K mg base 2 "is_word" spW1) : Cal P w K mg base 3 "check_word" spC1 := by
  refine D.cal (k := 2) sc_check_word (fun vs H Q E h => ?_) (fun f cdv A outer s H vs Q E rm gd h => ?_)
  · obtain ⟨i, rfl, _⟩ := h
    rfl
  · obtain ⟨i, rfl, hi, q⟩ := h
    refine ⟨_, (pss_one (ps_if (pt_not (pt_val (pc cis_word rm (by decide) gd rfl (pa_cons (pv 0) (pa_cons (pv 1) pa_nil)))))
      (pss_one ps_never)
      pss_nil)), ?_⟩
    walk_at "go"
    refine ⟨i, rfl, hi, _, rfl, ?_⟩
    refine iteF ?_
    walk_at "go"
    exact q
theorem ok_now (F : Fun K "now" "Bit.now" s_Bit_now f fd) (T : KBT K mg KB) : Gd P w K mg base CX0 1 f fd ["self"] (spNow KB) := by
  refine gd0 (k := 0) F sc_Bit_now (fun vs H Q E h => ?_) (fun cdv A outer s H vs Q E rm gd h => ?_)
  · obtain ⟨a, dx, fs, s, rfl, _⟩ := h
    rfl
  · obtain ⟨a, dx, fs, s, rfl, ha, hl, q⟩ := h
    refine ⟨_, (pss_one (ps_ret (pe_op op_and (pe_fld (pv 0) rfl) pe_int))), ?_⟩
    walk_at "go"
    refine fld ha T.cl T.nS hl ?_
    walk_at "go"
    exact q
theorem ok_sta (F : Fun K "state" "Bit.state" s_Bit_state f fd) (T : KBT K mg KB) : Gd P w K mg base CX0 1 f fd ["self"] (spSta KB) := by
  refine gd0 (k := 0) F sc_Bit_state (fun vs H Q E h => ?_) (fun cdv A outer s H vs Q E rm gd h => ?_)
  · obtain ⟨a, dx, fs, s, rfl, _⟩ := h
    rfl
  · obtain ⟨a, dx, fs, s, rfl, ha, hl, q⟩ := h
    refine ⟨_, (pss_one (ps_ret (pe_fld (pv 0) rfl))), ?_⟩
    walk_at "go"
    exact fld ha T.cl T.nS hl q
theorem ok_binit (F : FunD K "__init__" "Bit.__init__" (defArgs s_Bit___init__) (defBody s_Bit___init__) (defScope s_Bit___init__) [.int 0] [] f fd) (T : KBT K mg KB) (ccheck_word : Cal P w K mg base 3 "check_word" spC1) : Gd P w K mg base (L2.CX P w) 4 f fd ["self", "value"] (spB0 KB) := by
  refine gdD (k := 3) F sc_Bit___init__ (fun vs H Q E h => ?_) (fun cdv A outer s H vs Q E rm gd h => ?_)
  · obtain ⟨a, dx, b, rfl, _⟩ := h
    rfl
  · obtain ⟨a, dx, b, rfl, ha, hb, q⟩ := h
    have cl := T.cl
    have nS := T.nS
    refine ⟨_, (pss_cons (ps_expr (pc ccheck_word rm (by decide) gd rfl (pa_cons (pv 1) (pa_cons pe_int pa_nil))))
    (pss_one (ps_fld (pv 0) (pv 1) rfl))), ?_⟩
    walk_at "go"
    refine ⟨b, rfl, hb, ?_⟩
    walk_at "go"
    exact sfld ha cl nS (by show 0 < 1000; decide) rfl fun H6 h6 e6 => q H6 h6 (Kp.of e6)
theorem ok_kread {f : Addr} {pNow gNow fr : Addr} {fdNow : FuncData} (D : MetAt K KB "read" "KindBit.read" s_KindBit_read ["self"] f) (T : KBT K mg KB) (TK : Cls K C) (ne : KB ≠ C) (PNow : PropOf K KB "now" pNow gNow) (GNow : Gd P w K mg base CX0 1 gNow fdNow ["self"] (spNow KB)) (bNow : Binds K fdNow ["self"] []) (mAR : Met P w K mg base 1 C "after_read" fr (spAR C)) :
    Met P w K mg base 3 KB "read" f (spRd C KB) := by
  obtain ⟨fd, hm, F, b, G⟩ : ∃ fd, Meth K KB "read" f ∧ Fun K "read" "KindBit.read" s_KindBit_read f fd ∧ Binds K fd ["self"] [] ∧ Gd P w K mg base CX0 3 f fd ["self"] (spRd C KB) := by
    refine D.gd (k := 2) sc_KindBit_read (fun vs H Q E h => ?_) (fun cdv A outer s H vs Q E rm gd h => ?_)
    · obtain ⟨a, k, r, w, d, s, rfl, _⟩ := h
      rfl
    · obtain ⟨a, k, r, wr, d, s, rfl, ⟨dx, ha, hk, dm⟩, kd, q⟩ := h
      have cl := T.cl
      have nS := T.nS
      have nK := T.nK
      refine ⟨_, (pss_cons (ps_set (i := 1) sc_KindBit_read.nd rfl (Or.inl rfl) (pe_gprop (pv 0) T.cl PNow GNow (rm.mono (by decide)) gd bNow pass0))
    (pss_cons (ps_fld (pv 0) (pm mAR TK (rm.mono (by decide)) (Nat.le_refl _) gd (pe_fld (pv 0) rfl) (pa_cons (pe_fld (pv 0) rfl) pa_nil)) rfl)
    (pss_one (ps_ret (pv 1))))), ?_⟩
      walk_at "go"
      try unfold tProp
      walk_at "go"
      refine ⟨a, dx, _, rfl, ha, ?_⟩
      refine ⟨a, dx, _, s, rfl, ha, rfl, ?_⟩
      walk_at "go"
      obtain ⟨dy, st, h1, h2⟩ := id hk
      refine ⟨k, dy, _, rfl, h1, rfl, ?_⟩
      walk_at "go"
      refine ⟨k, r, wr, d, s, rfl, hk, ?_⟩
      walk_at "go"
      refine sfld ha cl nS (by show 2 < 1000; decide) rfl fun H6 h6 e6 => ?_
      walk_at "go"
      exact q H6 ⟨dx, h6, hk.kpA ha ne (Kp.of e6), dom_rd dm⟩ (Kp.of e6)
  exact ⟨fd, _, hm, b, G⟩
theorem ok_kwrite {f fr : Addr} (D : MetAt K KB "write" "KindBit.write" s_KindBit_write ["self", "bit"] f) (T : KBT K mg KB) (TK : Cls K C) (ne : KB ≠ C) (ccheck_word : Cal P w K mg base 3 "check_word" spC1) (mAW : Met P w K mg base 2 C "after_write" fr (spAW C)) :
    Met P w K mg base 4 KB "write" f (spWr C KB) := by
  obtain ⟨fd, hm, F, b, G⟩ : ∃ fd, Meth K KB "write" f ∧ Fun K "write" "KindBit.write" s_KindBit_write f fd ∧ Binds K fd ["self", "bit"] [] ∧ Gd P w K mg base CX0 4 f fd ["self", "bit"] (spWr C KB) := by
    refine D.gd (k := 3) sc_KindBit_write (fun vs H Q E h => ?_) (fun cdv A outer s H vs Q E rm gd h => ?_)
    · obtain ⟨a, k, r, w, d, s, b, rfl, _⟩ := h
      rfl
    · obtain ⟨a, k, r, wr, d, s, i, rfl, ⟨dx, ha, hk, dm⟩, kd, hi, q⟩ := h
      have cl := T.cl
      have nS := T.nS
      have nK := T.nK
      refine ⟨_, (pss_cons (ps_expr (pc ccheck_word rm (by decide) gd rfl (pa_cons (pv 1) (pa_cons pe_int pa_nil))))
    (pss_one (ps_fld (pv 0) (pm mAW TK (rm.mono (by decide)) (Nat.le_refl _) gd (pe_fld (pv 0) rfl) (pa_cons (pe_fld (pv 0) rfl) (pa_cons (pv 1) pa_nil))) rfl))), ?_⟩
      walk_at "go"
      refine ⟨i, rfl, hi, ?_⟩
      walk_at "go"
      obtain ⟨dy, st, h1, h2⟩ := id hk
      refine ⟨k, dy, _, rfl, h1, rfl, ?_⟩
      walk_at "go"
      refine ⟨k, r, wr, d, s, i, rfl, hk, kd.2.1, dm.st, hi, ?_⟩
      walk_at "go"
      refine sfld ha cl nS (by show 2 < 1000; decide) rfl fun H6 h6 e6 => ?_
      exact q H6 ⟨dx, h6, hk.kpA ha ne (Kp.of e6), dom_aw dm kd.2.1 hi⟩ (Kp.of e6)
  exact ⟨fd, _, hm, b, G⟩
theorem ok_kdeed {f fr : Addr} (D : MetAt K KB "deed" "KindBit.deed" s_KindBit_deed ["self"] f) (T : KBT K mg KB) (TK : Cls K C) (ne : KB ≠ C) (mDE : Met P w K mg base 1 C "deeds" fr (spDE C)) :
    Met P w K mg base 3 KB "deed" f (spDd C KB) := by
  obtain ⟨fd, hm, F, b, G⟩ : ∃ fd, Meth K KB "deed" f ∧ Fun K "deed" "KindBit.deed" s_KindBit_deed f fd ∧ Binds K fd ["self"] [] ∧ Gd P w K mg base CX0 3 f fd ["self"] (spDd C KB) := by
    refine D.gd (k := 2) sc_KindBit_deed (fun vs H Q E h => ?_) (fun cdv A outer s H vs Q E rm gd h => ?_)
    · obtain ⟨a, k, r, w, d, s, rfl, _⟩ := h
      rfl
    · obtain ⟨a, k, r, wr, d, s, rfl, ⟨dx, ha, hk, dm⟩, kd, q⟩ := h
      have cl := T.cl
      have nS := T.nS
      have nK := T.nK
      refine ⟨_, (pss_cons (ps_set (i := 1) sc_KindBit_deed.nd rfl (Or.inl rfl) (pm mDE TK (rm.mono (by decide)) (Nat.le_refl _) gd (pe_fld (pv 0) rfl) (pa_cons (pe_fld (pv 0) rfl) pa_nil)))
    (pss_cons (ps_if (pt_cmpR (op_eqD rm.units) (pv 1) (pe_tup pa_nil) (nomark _))
      (pss_one (ps_ret pe_bl))
      pss_nil)
    (pss_cons (ps_fld (pv 0) (pe_ix ix_tup (pv 1) pe_int (fun _ _ => rfl)) rfl)
    (pss_one (ps_ret pe_bl))))), ?_⟩
      walk_at "go"
      obtain ⟨dy, st, h1, h2⟩ := id hk
      refine ⟨k, dy, _, rfl, h1, rfl, ?_⟩
      walk_at "go"
      refine ⟨k, r, wr, d, s, rfl, hk, kd.2.2, dm.st, fun t H2 nt ht s2 => ?_⟩
      walk_at "go"
      refine new (by show 0 ≤ sizeLine; decide) fun t3 H3 n3 h3 s3 => ?_
      have dv : dvF d s = if deB d s = true then [.int (Builtin.bitXor s 1)] else [] := rfl
      have ht3 := s3 _ _ ht
      have ha3 := s3 _ _ (s2 _ _ ha)
      have hk3 := (hk.sm s2).sm s3
      have c3 : Kp a H H3 := fun b o z _ => s3 _ _ (s2 _ _ z)
      cases hd : deB d s with
      | false =>
        rw [dv, hd] at ht3
        rw [hd] at q
        refine ⟨.tuple [], .tuple [], .tup (SqT.of ht3) .nil, .tup (SqT.of h3) .nil, by decide +kernel, by decide +kernel, ?_⟩
        rw [show PyData.eqv (.tuple []) (.tuple []) = true by decide +kernel]
        refine ⟨_, rfl, iteT ?_⟩
        walk_at "go"
        have ef : deF d s = s := by
          unfold deF
          rw [hd]
          rfl
        rw [ef] at q
        exact q H3 ⟨dx, ha3, hk3, dm⟩ c3
      | true =>
        rw [dv, hd] at ht3
        have ht3 : H3 t = some (.tup [.int (Builtin.bitXor s 1)]) := ht3
        rw [hd] at q
        refine ⟨.tuple [.int (Builtin.bitXor s 1)], .tuple [], .tup (SqT.of ht3) (.cons (.int _) .nil), .tup (SqT.of h3) .nil, by simp [SeqAt.shaped, PyData.canLay0, PyData.canLayAll0, PyData.depth, PyData.depthAll], by decide +kernel, ?_⟩
        rw [show PyData.eqv (.tuple [.int (Builtin.bitXor s 1)]) (.tuple []) = false by simp [PyData.eqv, PyData.eqvAll]]
        refine ⟨_, rfl, iteF ?_⟩
        walk_at "go"
        refine sfld ha3 cl nS (by show 2 < 1000; decide) rfl fun H6 h6 e6 => ?_
        walk_at "go"
        have ef : deF d s = Builtin.bitXor s 1 := by
          unfold deF
          rw [hd]
          rfl
        rw [ef] at q
        have dx1 : Dom wr (Builtin.bitXor s 1) := by
          rcases dm with (rfl | rfl) | ⟨e, rfl | rfl⟩
          · exact .inl (.inr (by decide))
          · exact .inl (.inl (by decide))
          · exact .inr ⟨e, .inr (by decide)⟩
          · exact .inr ⟨e, .inl (by decide)⟩
        exact q H6 ⟨dx, h6, hk3.kpA ha3 ne (Kp.of e6), dx1⟩ (c3.trans (Kp.of e6))
  exact ⟨fd, _, hm, b, G⟩
theorem ok_kinit {D gU : Addr} {fdU : FuncData} (F : FunS P K "__init__" "KindBit.__init__" s_KindBit___init__ f D fd) (T : KBT K mg KB) (U : UpAt K KB D "__init__" gU)
    (GU : Gd P w K mg base (L2.CX P w) 4 gU fdU ["self", "value"] (spB0 KB)) (bU : Binds K fdU ["self", "value"] []) : Gd P w K mg base (L2.CX P w) 5 f fd ["self", "kind", "value"] (spK0 KB) := by
  refine gdS_of (k := 4) F sc_KindBit___init__ (fun vs H Q E h => ?_) (fun cda cc A outer s0 s1 H vs Q E rm gd h sf I => ?_)
  · obtain ⟨a, k, dx, b, rfl, _⟩ := h
    rfl
  · obtain ⟨a, k, dx, b, rfl, ha, hb, q⟩ := h
    obtain ⟨dV, kV, doc, pm, ct, an, SF⟩ := sf
    have cl := T.cl
    have nK := T.nK
    refine ks_wpAt_execs_cons (ks_wpAt_Expr_any (ks_wpAt_mono (sup_run (Q := fun v H' => H' a = some (.ins KB dx (pf b)) ∧ Kp a H H') sc_KindBit___init__ SF rfl rfl (by decide +kernel) (by decide) I rfl ha U GU bU rm gd (pa_cons (pv 2) pa_nil) ?_) (fun u s2 z => ?_) (fun e s2 z => z)) I.quiet)
    · walk_at "go"
      exact ⟨a, dx, b, rfl, ha, hb, fun H' h' c => ⟨h', c⟩⟩
    obtain ⟨v, H2, J, rv, ha2, c2⟩ := z
    have rest : ∃ t, PSs (cxS P w K mg base ["self", "kind", "value"] "KindBit.__init__" (defScope s_KindBit___init__) f cda cc A outer s0 H E) ((defBody s_KindBit___init__).drop 1) t ∧ t { nx := fun _ H' => Q .non H', rt := Q } (start ["self", "kind", "value"] [.ref a, .ref k, .int b]) H2 := by
      refine ⟨_, (pss_one (ps_fld (pv 0) (pv 1) rfl)), ?_⟩
      walk_at "go"
      refine sfld ha2 cl nK (by show 1 < 1000; decide) rfl fun H6 h6 e6 => ?_
      exact q H6 h6 (c2.trans (Kp.of e6))
    obtain ⟨t, h1, h2⟩ := rest
    exact wpAt_of_wpAny (h1.run [] s2 _ H2 _ J h2)
end
end Law

set_option Elab.async false
set_option linter.all false
set_option maxRecDepth 100000
set_option maxHeartbeats 4000000
namespace Law
open PySem PySem.Spec PySem.Calls PyProof.Rows L2 KG LamX
local macro_rules | `(tactic| walk_at "1") => `(tactic| first
  | (with_reducible refine w_var rfl ?_) | (with_reducible refine w_c ?_) | (with_reducible refine w_seq ?_) | (with_reducible refine w_asg ?_) | (with_reducible refine w_gname ?_) | (with_reducible refine w_op ?_) | (with_reducible refine w_un ?_)
  | (with_reducible refine w_add ?_) | (with_reducible refine w_sub ?_) | ((with_reducible refine' w_mod ?mo ?_); (case mo => first | assumption | decide | omega)) | (with_reducible refine w_and ?_) | (with_reducible refine w_or ?_) | (with_reducible refine w_xor ?_)
  | (with_reducible refine w_gt ?_) | (with_reducible refine w_lt ?_) | (with_reducible refine w_ge ?_) | (with_reducible refine w_le ?_) | ((with_reducible refine' w_eq ?sc ?_); (case sc => rfl)) | ((with_reducible refine' w_ne ?sc ?_); (case sc => rfl))
  | (with_reducible refine w_ret ?_) | (with_reducible refine w_next ?_) | (with_reducible refine w_ifs ?_) | (with_reducible refine w_ifx ?_) | (with_reducible refine w_test ?_) | (with_reducible refine w_tB ?_) | (with_reducible refine w_bl ?_)
  | ((with_reducible refine' w_ixL ?ixh ?ixa ?_); (case ixh => first | exact SqL.of (by assumption)); (case ixa => first | rfl | skip)) | ((with_reducible refine' w_ixT ?ixh ?ixa ?_); (case ixh => first | exact SqT.of (by assumption)); (case ixa => first | rfl | skip))
  | ((with_reducible refine' w_fld ?_)) | ((with_reducible refine' fld ?fh ?fc ?fn ?fl ?_); (case fh => assumption); (case fc => assumption); (case fn => assumption); (case fl => rfl)) | (with_reducible refine w_sfld ?_)
  | (with_reducible refine Or.inl ⟨_, rfl, ?_⟩) | (with_reducible refine w_gsub ?_) | (with_reducible refine w_andV ?_) | (with_reducible refine w_orV ?_)
  | (with_reducible refine w_nil ?_) | (with_reducible refine w_cons ?_) | (with_reducible refine w_tup ?_) | (with_reducible refine w_lst ?_) | (with_reducible refine w_and2 ?_) | (with_reducible refine w_or2 ?_) | (with_reducible refine w_not ?_) | (with_reducible refine w_cb ?_) | (with_reducible refine w_call ?_) | (with_reducible refine w_par ?_) | (with_reducible refine w_pnil ?_) | (with_reducible refine w_pcons ?_) | (with_reducible refine w_dput ?_) | (with_reducible refine w_dget ?_) | (with_reducible refine w_for ?_) | (with_reducible refine w_itup ?_) | (with_reducible refine w_ilist ?_) | (with_reducible refine w_irng ?_) | (with_reducible refine w_meth ?_) | (with_reducible refine w_make ?_) | (with_reducible refine w_makeK ?_) | (with_reducible refine w_methK ?_) | ((with_reducible refine' mth ?mh ?ml ?_); (case mh => assumption); (case ml => rfl)) | (with_reducible refine w_drop ?_))
local macro_rules | `(tactic| walk_at "go") => `(tactic| ((repeat (walk_at "1")); try dsimp only))
local macro_rules | `(tactic| walk_at "1") => `(tactic| first
  | (with_reducible refine w_notV ?_) | (with_reducible refine w_callK ?_) | (with_reducible refine w_lc ?_) | (with_reducible refine w_chain ?_) | (with_reducible refine w_neg ?_) | ((with_reducible refine' w_shr ?mo ?_); (case mo => first | assumption | omega)))
def rIxE (K : PySem.W.Frag) : R2 := fun x y H Q => rIxL K x y H Q ∨ rIxT K x y H Q
theorem ix_either {X : Cx} : IxR X (rIxE X.K) := by
  intro value slice pins s σ H x y v u Q I rx ry h hs
  rcases h with h | h
  · exact ix_list value slice pins s σ H x y v u Q I rx ry h hs
  · exact ix_tup value slice pins s σ H x y v u Q I rx ry h hs
theorem cut_one {x : Str} {i : Nat} {c : Nat} (h : x.cps.toList[i]? = some c) : cutS x (some (i : Int)) (some ((i : Int) + 1)) = one c := by
  have lt := (List.getElem?_eq_some_iff.mp h).1
  rw [Array.length_toList] at lt
  unfold cutS
  have e1 : HT.sIx x.length 0 (some (i : Int)) = i := by
    rw [HT.sIx_nat]
    exact Nat.min_eq_left (Nat.le_of_lt lt)
  have e2 : HT.sIx x.length x.length (some ((i : Int) + 1)) = i + 1 := by
    rw [show ((i : Int) + 1) = ((i + 1 : Nat) : Int) by omega, HT.sIx_nat]
    exact Nat.min_eq_left lt
  rw [e1, e2, Nat.add_sub_cancel_left]
  have : (x.cps.toList.drop i).take 1 = [c] := by
    rw [List.take_one, List.head?_drop, h]
    rfl
  rw [this]
  rfl
theorem cut_end {x : Str} : cutS x (some ((x.cps.size : Nat) : Int)) (some (((x.cps.size : Nat) : Int) + 1)) = Str.empty := by
  unfold cutS
  have e1 : HT.sIx x.length 0 (some ((x.cps.size : Nat) : Int)) = x.cps.size := by
    rw [HT.sIx_nat]
    exact Nat.min_self _
  rw [e1, ← Array.length_toList, List.drop_length, List.take_nil]
  rfl
/-! ### led through letters -/
def ltF (r w : Str) (c : Str) (s : Int) : Int := if c = "r" then rdF r s else if c = "1" then awF w s 1 else awF w s 0
def dN (d : Str) : Nat → Int → Int
  | 0, s => s
  | n + 1, s => deF d (dN d n s)
def ledP (r w d : Str) (s : Int) (l : List (Nat × Int)) : Int := l.foldl (fun s p => ltF r w (one p.1) (dN d p.2.toNat s)) s
def ledF (r w d : Str) (s : Int) (cs : List Nat) (ns : List Int) : Int := dN d (ns.getD cs.length 0).toNat (ledP r w d s (cs.zip ns))
theorem dom_de {w d : Str} {s : Int} (dm : Dom w s) : Dom w (deF d s) := by
  unfold deF
  split
  · rcases dm with (rfl | rfl) | ⟨e, rfl | rfl⟩
    · exact .inl (.inr (by decide))
    · exact .inl (.inl (by decide))
    · exact .inr ⟨e, .inr (by decide)⟩
    · exact .inr ⟨e, .inl (by decide)⟩
  · exact dm
theorem dom_stN {w : Str} {s : Int} : Dom w s ↔ s ∈ stN w := by
  unfold Dom stN
  constructor
  · rintro ((rfl | rfl) | ⟨rfl, rfl | rfl⟩)
    · split <;> simp
    · split <;> simp
    · simp
    · simp
  · intro h
    split at h
    · rename_i e
      simp only [List.mem_cons, List.not_mem_nil, or_false] at h
      rcases h with rfl | rfl | rfl | rfl
      · exact .inl (.inl rfl)
      · exact .inl (.inr rfl)
      · exact .inr ⟨e, .inl rfl⟩
      · exact .inr ⟨e, .inr rfl⟩
    · simp only [List.mem_cons, List.not_mem_nil, or_false] at h
      exact .inl h
def spSet (C KB : Addr) : Sp := fun vs H Q _ => ∃ (k : Addr) (r w d : Str) (s : Int), vs = [.ref k, .int s] ∧ KindAt C H k r w d ∧ Kd r w d ∧ s ∈ stN w ∧ ∀ a H', H a = none → BitK C KB H' a k r w d s → Same H H' → Q (.ref a) H'
def spLt : Sp := fun vs H Q _ => ∃ (t : Addr) (r w d : Str) (s : Int) (c : Str), vs = [.ref t, .int s, .str c] ∧ H t = some (.tup [.str r, .str w, .str d]) ∧ Kd r w d ∧ Dom w s ∧ (c = "0" ∨ c = "1" ∨ c = "r") ∧ ∀ H', Same H H' → Q (.int (ltF r w c s)) H'
def spLed (C KB : Addr) (K : PySem.W.Frag) : Sp := fun vs H Q _ => ∃ (a k g : Addr) (r w d : Str) (s : Int) (x : Str) (ns : List Int), vs = [.ref a, .str x, .ref g] ∧ BitK C KB H a k r w d s ∧ Kd r w d ∧ Lets x ∧ ((∀ H', Kp a H H' → SqL K H' g (ns.map V.int)) ∨ (∀ H', Kp a H H' → SqT K H' g (ns.map V.int))) ∧ ns.length = x.cps.size + 1 ∧ (∀ n ∈ ns, 0 ≤ n ∧ n ≤ 1000) ∧
  ∀ H', BitK C KB H' a k r w d (ledF r w d s x.cps.toList ns) → Kp a H H' → Q (.int (ledF r w d s x.cps.toList ns)) H'
theorem set_fact : ∀ s : Int, s = 2 ∨ s = 3 → awF "once" (s % 2) (s % 2) = s := by
  rintro _ (rfl | rfl) <;> decide +kernel
theorem same_kp {a : Addr} {H H' : Hp} (na : H a = none) (k : Kp a H H') : Same H H' := fun b o z => k b o z (ne_of_none z na)
section
variable {P : Program} {w : World} {K : PySem.W.Frag} {mg : Str → Option Value} {base : Heap} {C KB aW aI : Addr} {mc : Value}
theorem ok_set (D : DefAt K mg "_law_set_up" s__law_set_up ["_law_kind", "_law_state"]) (T : KBT K mg KB) (ne : KB ≠ C) {fK fWr pSta gSta : Addr} {fdK fdSta : FuncData} (MKB : Mk K KB fK) (GKI : Gd P w K mg base (L2.CX P w) 5 fK fdK ["self", "kind", "value"] (spK0 KB)) (bK2 : Binds K fdK ["self", "kind", "value"] [])
    (mWr : Met P w K mg base 4 KB "write" fWr (spWr C KB)) (PSta : PropOf K KB "state" pSta gSta) (GSta : Gd P w K mg base CX0 1 gSta fdSta ["self"] (spSta KB)) (bSta : Binds K fdSta ["self"] []) : Cal P w K mg base 7 "_law_set_up" (spSet C KB) := by
  refine D.cal (k := 6) sc__law_set_up (fun vs H Q E h => ?_) (fun f cdv A outer s0 H vs Q E rm gd h => ?_)
  · obtain ⟨k, r, wr, d, s, rfl, _⟩ := h
    rfl
  · obtain ⟨k, r, wr, d, s, rfl, hk, kd, hs, q⟩ := h
    have cl := T.cl
    have nS := T.nS
    refine ⟨_, (pss_cons (ps_set (i := 2) sc__law_set_up.nd rfl (Or.inl rfl) (pe_gmake (E := fun _ _ _ => False) MKB GKI (rm.mono (by decide)) gd rfl T.g bK2 .nil pass_no (pa_cons (pv 0) (pa_cons (pe_op op_mod (pv 1) pe_int) pa_nil))))
    (pss_mid (ps_if (pt_cmpR op_gt (pv 1) pe_int (nomark _))
      (pss_one (ps_expr (pm mWr T.cl rm (by decide) gd (pv 2) (pa_cons (pe_op op_mod (pv 1) pe_int) pa_nil))))
      pss_nil)
    (pss_one (ps_ret (pe_ifExp (pt_cmpR op_eq (pe_gprop (pv 2) T.cl PSta GSta (rm.mono (by decide)) gd bSta pass0) (pv 1) (nomark _)) (pv 2) pe_non))))), ?_⟩
    walk_at "go"
    have s2 : s % 2 = 0 ∨ s % 2 = 1 := by omega
    refine make fun a dx H1 na ha s1 => ?_
    refine ⟨a, k, dx, s % 2, rfl, ha, s2, fun H2 h2 k2 => ⟨rfl, ?_⟩⟩
    have na0 : H a = none := na
    have s02 : Same H H2 := fun b o z => k2 b o (s1 b o z) (ne_of_none z na)
    have hb : BitK C KB H2 a k r wr d (s % 2) := ⟨dx, h2, hk.sm s02, by unfold Dom; exact .inl s2⟩
    walk_at "go"
    have dm : Dom wr s := dom_stN.mpr hs
    refine w_mid (fun σ' H' => σ' = [some (.ref k), some (.int s), some (.ref a)] ∧ BitK C KB H' a k r wr d s ∧ Same H H') ?_ ?_
    · walk_at "go"
      rcases dm with dm | ⟨e, dm⟩
      · rw [decide_eq_false (show ¬ (1 : Int) < s by omega)]
        refine iteF ?_
        walk_at "go"
        have e2 : s % 2 = s := by omega
        rw [e2] at hb
        exact ⟨rfl, hb, s02⟩
      · rw [decide_eq_true (show (1 : Int) < s by omega)]
        refine iteT ?_
        walk_at "go"
        obtain ⟨dx', i1, _⟩ := id hb
        walk_at "go"
        refine ⟨a, k, r, wr, d, s % 2, s % 2, rfl, hb, kd, s2, fun H3 hb3 k3 => ?_⟩
        walk_at "go"
        refine ⟨rfl, ?_, fun b o z => k3 b o (s02 b o z) (ne_of_none z na0)⟩
        rw [show awF wr (s % 2) (s % 2) = s by rw [e]; exact set_fact s dm] at hb3
        exact hb3
    · rintro σ' H3 ⟨rfl, hb3, s03⟩
      obtain ⟨dx', i1, hk3, dm3⟩ := id hb3
      walk_at "go"
      try unfold tProp
      walk_at "go"
      refine ⟨a, dx', _, rfl, i1, a, dx', _, s, rfl, i1, rfl, ?_⟩
      walk_at "go"
      refine ite2 (fun _ => ?_) fun h => absurd (by simp) h
      walk_at "go"
      exact q a H3 na0 hb3 s03
theorem ok_lt (D : DefAt K mg "_law_letter" s__law_letter ["_law_words_here", "_law_state", "_law_letter_here"]) (B : B1 mg) (c_law_read : Cal P w K mg base 1 "_law_read" spRdL) (c_law_write : Cal P w K mg base 1 "_law_write" spWrL) : Cal P w K mg base 2 "_law_letter" spLt := by
  refine D.cal (k := 1) sc__law_letter (fun vs H Q E h => ?_) (fun f cdv A outer s0 H vs Q E rm gd h => ?_)
  · obtain ⟨t, r, wr, d, s, c, rfl, _⟩ := h
    rfl
  · obtain ⟨t, r, wr, d, s, c, rfl, ht, kd, dm, hc, q⟩ := h
    have st : St wr s := by
      unfold St
      rcases dm with (h | h) | h
      · exact .inl h
      · exact .inr (.inl h)
      · exact .inr (.inr h)
    refine ⟨_, (pss_cons (ps_if (pt_cmpR op_eq (pv 2) pe_str (nomark _))
      (pss_one (ps_ret (pc c_law_read rm (by decide) gd rfl (pa_cons (pe_ix ix_tup (pv 0) pe_int (fun _ _ => rfl)) (pa_cons (pv 1) pa_nil)))))
      pss_nil)
    (pss_one (ps_ret (pc c_law_write rm (by decide) gd rfl (pa_cons (pe_ix ix_tup (pv 0) pe_int (fun _ _ => rfl)) (pa_cons (pv 1) (pa_cons (pe_callTy (T := "int") (r := rIntS) cr_intS (by rfl) B.g_int (by decide +kernel) (pa_cons (pv 2) pa_nil)) pa_nil))))))), ?_⟩
    walk_at "go"
    rcases hc with rfl | rfl | rfl
    · refine ite2 (fun h => absurd h (by decide)) fun _ => ?_
      walk_at "go"
      refine ⟨"0", 0, rfl, by decide +kernel, by decide, ?_⟩
      walk_at "go"
      refine ⟨wr, s, 0, rfl, kd.2.1, .inl rfl, fun H6 s6 => ?_⟩
      rw [← wr_eq kd.2.1 st (.inl rfl)]
      exact q H6 s6
    · refine ite2 (fun h => absurd h (by decide)) fun _ => ?_
      walk_at "go"
      refine ⟨"1", 1, rfl, by decide +kernel, by decide, ?_⟩
      walk_at "go"
      refine ⟨wr, s, 1, rfl, kd.2.1, .inr rfl, fun H6 s6 => ?_⟩
      rw [← wr_eq kd.2.1 st (.inr rfl)]
      exact q H6 s6
    · refine ite2 (fun _ => ?_) fun h => absurd (by decide) h
      walk_at "go"
      refine ⟨r, s, rfl, ?_⟩
      rw [← rd_eq dm.st]
      exact q H fun _ _ z => z
theorem ok_led (D : DefAt K mg "_law_led" s__law_led ["_law_bit", "_law_letters_here", "_law_deeds_here"]) (B : B1 mg) (T : KBT K mg KB) {fRd fWr fDd pSta gSta : Addr} {fdSta : FuncData}
    (mRd : Met P w K mg base 3 KB "read" fRd (spRd C KB)) (mWr : Met P w K mg base 4 KB "write" fWr (spWr C KB)) (mDd : Met P w K mg base 3 KB "deed" fDd (spDd C KB)) (PSta : PropOf K KB "state" pSta gSta) (GSta : Gd P w K mg base CX0 1 gSta fdSta ["self"] (spSta KB)) (bSta : Binds K fdSta ["self"] []) :
    Cal P w K mg base 6 "_law_led" (spLed C KB K) := by
  refine D.cal (k := 5) sc__law_led (fun vs H Q E h => ?_) (fun f cdv A outer s0 H vs Q E rm gd h => ?_)
  · obtain ⟨a, k, g, r, wr, d, s, x, ns, rfl, _⟩ := h
    rfl
  · obtain ⟨a, k, g, r, wr, d, s, x, ns, rfl, hb, kd, lx, hg, hl, hn, q⟩ := h
    have cl := T.cl
    have nS := T.nS
    have big : x.length ≤ sizeLine := Nat.le_trans (show x.cps.size ≤ 40 from lx.1) (by decide)
    refine ⟨_, (pss_cons (ps_for PassesOwn.never rfl (pi_range1 rfl B.g_range (pa_cons (pe_op op_add (pe_callB call_len_str (by rfl) B.g_len (by decide +kernel) (pa_cons (pv 1) pa_nil)) pe_int) pa_nil)) (pg_name (i := 3) sc__law_led.nd rfl (Or.inl rfl))
      (pss_cons (ps_for PassesOwn.never rfl (pi_range1 rfl B.g_range (pa_cons (pe_ix ix_either (pv 2) (pv 3) (fun _ _ => rfl)) pa_nil)) (pg_name (i := 4) sc__law_led.nd rfl (Or.inl rfl))
        (pss_one (ps_expr (pm0 mDd T.cl rm (by decide) gd (pv 0)))))
      (pss_one (ps_if (pt_cmpR op_eq (pe_slice sl_str (pv 1) (po_some (pv 3)) (po_some (pe_op op_add (pv 3) pe_int))) pe_str (nomark _))
        (pss_one (ps_expr (pm0 mRd T.cl rm (by decide) gd (pv 0))))
        (pss_one (ps_if (pt_cmpR op_lt (pv 3) (pe_callB call_len_str (by rfl) B.g_len (by decide +kernel) (pa_cons (pv 1) pa_nil)) (nomark _))
          (pss_one (ps_expr (pm mWr T.cl rm (by decide) gd (pv 0) (pa_cons (pe_callTy (T := "int") (r := rIntS) cr_intS (by rfl) B.g_int (by decide +kernel) (pa_cons (pe_ix ix_str (pv 1) (pv 3) (fun _ _ => rfl)) pa_nil)) pa_nil))))
          pss_nil))))))
    (pss_one (ps_ret (pe_gprop (pv 0) T.cl PSta GSta (rm.mono (by decide)) gd bSta pass0)))), ?_⟩
    walk_at "go"
    refine ⟨x, rfl, big, ?_⟩
    walk_at "go"
    obtain ⟨n, en⟩ : ∃ n, x.cps.size = n := ⟨_, rfl⟩
    have ec : x.cps.toList.length = n := by rw [Array.length_toList, en]
    have ej : ((x.length : Int) + 1) = ((n + 1 : Nat) : Int) := by
      rw [← en]
      rfl
    rw [ej]
    have n40 : n ≤ 40 := en ▸ lx.1
    have hl : ns.length = n + 1 := en ▸ hl
    obtain ⟨Z, hZ⟩ : ∃ Z, x.cps.toList.zip ns = Z := ⟨_, rfl⟩
    have lZ : Z.length = n := by
      rw [← hZ, List.length_zip, ec, hl]
      omega
    obtain ⟨up, hup⟩ : ∃ up : Nat → Int, up = fun i => if i ≤ n then ledP r wr d s (Z.take i) else ledF r wr d s x.cps.toList ns := ⟨_, rfl⟩
    have up0 : up 0 = s := by rw [hup]; rfl
    have upEnd : up (n + 1) = ledF r wr d s x.cps.toList ns := by
      rw [hup]
      exact if_neg (by omega)
    have upN : ∀ i, i ≤ n → up i = ledP r wr d s (Z.take i) := fun i hi => by
      rw [hup]
      exact if_pos hi
    refine over_r (by omega) (by omega) (for_range (n := ((n + 1 : Nat) : Int).toNat) (fun i σ H' => (∃ v3 v4, σ = [some (.ref a), some (.str x), some (.ref g), v3, v4]) ∧ BitK C KB H' a k r wr d (up i) ∧ Kp a H H') ⟨⟨none, none, rfl⟩, by rw [up0]; exact hb, fun _ _ z _ => z⟩ ?_ ?_)
    · rintro i σ H2 hi ⟨⟨v3, v4, rfl⟩, hb2, k2⟩
      rw [Int.toNat_natCast] at hi
      rw [Int.zero_add]
      obtain ⟨m, hm⟩ : ∃ m, ns[i]? = some m := ⟨_, List.getElem?_eq_getElem (by omega)⟩
      obtain ⟨m0, m1⟩ := hn m (List.mem_of_getElem? hm)
      obtain ⟨mn, rfl⟩ := Int.eq_ofNat_of_zero_le m0
      have atm : atI (ns.map V.int) (i : Int) = some (.int (mn : Nat)) := atI_nat (by rw [List.getElem?_map, hm]; rfl)
      have ixE : ∀ {Q' : VK}, Q' (.int (mn : Nat)) H2 → rIxE K (.ref g) (.int i) H2 Q' := fun {Q'} q' => by
        rcases hg with hg | hg
        · exact .inl (w_ixL (hg _ k2) atm q')
        · exact .inr (w_ixT (hg _ k2) atm q')
      walk_at "go"
      refine ixE ?_
      walk_at "go"
      have hin : i ≤ n := by omega
      rw [upN i hin] at hb2
      have upS : ∀ c, x.cps.toList[i]? = some c → up (i + 1) = ltF r wr (one c) (dN d mn (ledP r wr d s (Z.take i))) := fun c hc => by
        have lt := (List.getElem?_eq_some_iff.mp hc).1
        rw [upN (i + 1) (by omega)]
        have hz : Z[i]? = some (c, ((mn : Nat) : Int)) := by
          rw [← hZ, List.getElem?_zip_eq_some]
          exact ⟨hc, hm⟩
        rw [List.take_add_one, hz]
        unfold ledP
        rw [List.foldl_append]
        rfl
      have upL : i = n → up (i + 1) = dN d mn (ledP r wr d s (Z.take i)) := fun e => by
        subst e
        rw [upEnd]
        unfold ledF
        rw [ec, List.getD_eq_getElem?_getD, hm, hZ, List.take_of_length_le (by omega)]
        rfl
      generalize ledP r wr d s (Z.take i) = st at hb2 upS upL
      have next : ∀ (e : Int), e = up (i + 1) → ∀ {v3 v4 : Option V} {H' : Hp}, BitK C KB H' a k r wr d e → Kp a H H' → (∃ v3' v4', [some (V.ref a), some (.str x), some (.ref g), v3, v4] = [some (V.ref a), some (.str x), some (.ref g), v3', v4']) ∧ BitK C KB H' a k r wr d (up (i + 1)) ∧ Kp a H H' := fun e ee v3 v4 H' hb' k' => ⟨⟨_, _, rfl⟩, ee ▸ hb', k'⟩
      refine over_r (by omega) (by omega) (for_range (n := ((mn : Nat) : Int).toNat) (fun j σ H' => (∃ v4, σ = [some (.ref a), some (.str x), some (.ref g), some (.int (i : Int)), v4]) ∧ BitK C KB H' a k r wr d (dN d j st) ∧ Kp a H H') ⟨⟨v4, rfl⟩, hb2, k2⟩ ?_ ?_)
      · rintro j σ H3 hj ⟨⟨v4', rfl⟩, hb3, k3⟩
        obtain ⟨dx3, i3, _⟩ := id hb3
        walk_at "go"
        refine ⟨a, k, r, wr, d, _, rfl, hb3, kd, fun H4 hb4 k4 => ?_⟩
        walk_at "go"
        exact ⟨⟨_, rfl⟩, hb4, k3.trans k4⟩
      · rintro σ H3 ⟨⟨v4', rfl⟩, hb3, k3⟩
        rw [Int.toNat_natCast] at hb3
        walk_at "go"
        unfold tSl
        walk_at "go"
        unfold tPart
        walk_at "go"
        refine ⟨(i : Int), rfl, ?_⟩
        walk_at "go"
        refine ⟨(i : Int) + 1, rfl, ?_⟩
        refine ⟨x, rfl, big, ?_⟩
        obtain ⟨dx3, i3, _⟩ := id hb3
        rcases Nat.lt_or_ge i n with lt | ge
        · obtain ⟨c, hc⟩ : ∃ c, x.cps.toList[i]? = some c := ⟨_, List.getElem?_eq_getElem (by omega)⟩
          have e1 := upS c hc
          rw [cut_one hc]
          have sg := sign_of (lx.2 c (List.mem_of_getElem? hc))
          walk_at "go"
          rcases sg with e | e | e
          · refine ite2 (fun h => absurd h (by rw [e]; decide)) fun _ => ?_
            walk_at "go"
            refine ⟨x, rfl, big, ?_⟩
            walk_at "go"
            rw [decide_eq_true (show (i : Int) < (x.length : Int) by show (i : Int) < ((x.cps.size : Nat) : Int); omega)]
            refine iteT ?_
            walk_at "go"
            refine ⟨x, _, c, rfl, rfl, big, atI_nat hc, ?_⟩
            walk_at "go"
            refine ⟨one c, 0, rfl, by rw [e]; decide +kernel, by rw [e]; decide, ?_⟩
            walk_at "go"
            refine ⟨a, k, r, wr, d, _, 0, rfl, hb3, kd, .inl rfl, fun H4 hb4 k4 => ?_⟩
            walk_at "go"
            refine ⟨⟨_, _, rfl⟩, ?_, k3.trans k4⟩
            rw [e1]
            unfold ltF
            rw [e, if_neg (by decide), if_neg (by decide)]
            exact hb4
          · refine ite2 (fun h => absurd h (by rw [e]; decide)) fun _ => ?_
            walk_at "go"
            refine ⟨x, rfl, big, ?_⟩
            walk_at "go"
            rw [decide_eq_true (show (i : Int) < (x.length : Int) by show (i : Int) < ((x.cps.size : Nat) : Int); omega)]
            refine iteT ?_
            walk_at "go"
            refine ⟨x, _, c, rfl, rfl, big, atI_nat hc, ?_⟩
            walk_at "go"
            refine ⟨one c, 1, rfl, by rw [e]; decide +kernel, by rw [e]; decide, ?_⟩
            walk_at "go"
            refine ⟨a, k, r, wr, d, _, 1, rfl, hb3, kd, .inr rfl, fun H4 hb4 k4 => ?_⟩
            walk_at "go"
            refine ⟨⟨_, _, rfl⟩, ?_, k3.trans k4⟩
            rw [e1]
            unfold ltF
            rw [e, if_neg (by decide), if_pos rfl]
            exact hb4
          · refine ite2 (fun _ => ?_) fun h => absurd (by rw [e]; decide) h
            walk_at "go"
            refine ⟨a, k, r, wr, d, _, rfl, hb3, kd, fun H4 hb4 k4 => ?_⟩
            walk_at "go"
            refine ⟨⟨_, _, rfl⟩, ?_, k3.trans k4⟩
            rw [e1]
            unfold ltF
            rw [e, if_pos rfl]
            exact hb4
        · have ei : i = n := by omega
          rw [show cutS x (some (i : Int)) (some ((i : Int) + 1)) = Str.empty by rw [ei, ← en]; exact cut_end]
          walk_at "go"
          refine ite2 (fun h => absurd h (by decide)) fun _ => ?_
          walk_at "go"
          refine ⟨x, rfl, big, ?_⟩
          walk_at "go"
          rw [decide_eq_false (show ¬ (i : Int) < (x.length : Int) by show ¬ (i : Int) < ((x.cps.size : Nat) : Int); omega)]
          refine iteF ?_
          walk_at "go"
          refine ⟨⟨_, _, rfl⟩, ?_, k3⟩
          rw [upL ei]
          exact hb3
    · rintro σ H2 ⟨⟨v3, v4, rfl⟩, hb2, k2⟩
      rw [Int.toNat_natCast, upEnd] at hb2
      obtain ⟨dx2, i2, _⟩ := id hb2
      walk_at "go"
      try unfold tProp
      walk_at "go"
      refine ⟨a, dx2, _, rfl, i2, a, dx2, _, _, rfl, i2, rfl, ?_⟩
      exact q H2 hb2 k2
end
end Law

set_option Elab.async false
set_option linter.all false
set_option maxRecDepth 100000
set_option maxHeartbeats 4000000
namespace Law
open PySem PySem.Spec PySem.Calls PyProof.Rows L2 KG LamX
local macro_rules | `(tactic| walk_at "1") => `(tactic| first
  | (with_reducible refine w_var rfl ?_) | (with_reducible refine w_c ?_) | (with_reducible refine w_seq ?_) | (with_reducible refine w_asg ?_) | (with_reducible refine w_gname ?_) | (with_reducible refine w_op ?_) | (with_reducible refine w_un ?_)
  | (with_reducible refine w_add ?_) | (with_reducible refine w_sub ?_) | ((with_reducible refine' w_mod ?mo ?_); (case mo => first | assumption | decide | omega)) | (with_reducible refine w_and ?_) | (with_reducible refine w_or ?_) | (with_reducible refine w_xor ?_)
  | (with_reducible refine w_gt ?_) | (with_reducible refine w_lt ?_) | (with_reducible refine w_ge ?_) | (with_reducible refine w_le ?_) | ((with_reducible refine' w_eq ?sc ?_); (case sc => rfl)) | ((with_reducible refine' w_ne ?sc ?_); (case sc => rfl))
  | (with_reducible refine w_ret ?_) | (with_reducible refine w_next ?_) | (with_reducible refine w_ifs ?_) | (with_reducible refine w_ifx ?_) | (with_reducible refine w_test ?_) | (with_reducible refine w_tB ?_) | (with_reducible refine w_bl ?_)
  | ((with_reducible refine' w_ixL ?ixh ?ixa ?_); (case ixh => first | exact SqL.of (by assumption)); (case ixa => first | rfl | skip)) | ((with_reducible refine' w_ixT ?ixh ?ixa ?_); (case ixh => first | exact SqT.of (by assumption)); (case ixa => first | rfl | skip))
  | ((with_reducible refine' w_fld ?_)) | ((with_reducible refine' fld ?fh ?fc ?fn ?fl ?_); (case fh => assumption); (case fc => assumption); (case fn => assumption); (case fl => rfl)) | (with_reducible refine w_sfld ?_)
  | (with_reducible refine Or.inl ⟨_, rfl, ?_⟩) | (with_reducible refine w_gsub ?_) | (with_reducible refine w_andV ?_) | (with_reducible refine w_orV ?_)
  | (with_reducible refine w_nil ?_) | (with_reducible refine w_cons ?_) | (with_reducible refine w_tup ?_) | (with_reducible refine w_lst ?_) | (with_reducible refine w_and2 ?_) | (with_reducible refine w_or2 ?_) | (with_reducible refine w_not ?_) | (with_reducible refine w_cb ?_) | (with_reducible refine w_call ?_) | (with_reducible refine w_par ?_) | (with_reducible refine w_pnil ?_) | (with_reducible refine w_pcons ?_) | (with_reducible refine w_dput ?_) | (with_reducible refine w_dget ?_) | (with_reducible refine w_for ?_) | (with_reducible refine w_itup ?_) | (with_reducible refine w_ilist ?_) | (with_reducible refine w_irng ?_) | (with_reducible refine w_meth ?_) | (with_reducible refine w_make ?_) | (with_reducible refine w_makeK ?_) | (with_reducible refine w_methK ?_) | ((with_reducible refine' mth ?mh ?ml ?_); (case mh => assumption); (case ml => rfl)) | (with_reducible refine w_drop ?_))
local macro_rules | `(tactic| walk_at "go") => `(tactic| ((repeat (walk_at "1")); try dsimp only))
local macro_rules | `(tactic| walk_at "1") => `(tactic| first
  | (with_reducible refine w_notV ?_) | (with_reducible refine w_callK ?_) | (with_reducible refine w_lc ?_) | (with_reducible refine w_chain ?_) | (with_reducible refine w_neg ?_) | ((with_reducible refine' w_shr ?mo ?_); (case mo => first | assumption | omega)))
/-! ### the ways of letters: layer by layer -/
abbrev It2 := Int × List Int
def exts (d : Str) (x : It2) : List It2 := (x.1, x.2 ++ [0]) :: (dvI d x.1).map fun e => (e, x.2 ++ [1])
def addL (acc : List It2) (x : It2) : List It2 := if acc.any (fun y => decide (y.1 = x.1)) = true then acc else acc ++ [x]
def opL (r w : Str) (c : Nat) (x : It2) : It2 := (ltF r w (one c) x.1, x.2)
def nextL (r w d : Str) (l : List It2) (c : Nat) : List It2 := (l.flatMap (exts d)).foldl (fun acc x => addL acc (opL r w c x)) []
def lays (r w d : Str) (s0 : Int) (cs : List Nat) : List It2 := cs.foldl (nextL r w d) [(s0, [])]
def wayF (r w d : Str) (s0 e : Int) (cs : List Nat) : Option (List Int) := (((lays r w d s0 cs).flatMap (exts d)).find? fun x => decide (x.1 = e)).map (·.2)
theorem lays_snoc (r w d : Str) (s0 : Int) (cs : List Nat) (c : Nat) : lays r w d s0 (cs ++ [c]) = nextL r w d (lays r w d s0 cs) c := by
  unfold lays
  rw [List.foldl_append]
  rfl
theorem dv_de {d : Str} {s e : Int} (h : e ∈ dvI d s) : e = deF d s := by
  unfold dvI at h
  unfold deF deB
  split at h
  · rename_i c
    rw [if_pos c]
    simpa using h
  · simp at h
theorem ext_of {d : Str} {x y : It2} (h : y ∈ exts d x) : ∃ n : Int, (n = 0 ∨ n = 1) ∧ y = (dN d n.toNat x.1, x.2 ++ [n]) := by
  unfold exts at h
  rcases List.mem_cons.mp h with rfl | h
  · exact ⟨0, .inl rfl, rfl⟩
  · obtain ⟨e, he, rfl⟩ := List.mem_map.mp h
    refine ⟨1, .inr rfl, ?_⟩
    rw [dv_de he]
    rfl
theorem addL_mem {acc : List It2} {x y : It2} (h : y ∈ addL acc x) : y ∈ acc ∨ y = x := by
  unfold addL at h
  split at h
  · exact .inl h
  · rcases List.mem_append.mp h with h | h
    · exact .inl h
    · exact .inr (List.mem_singleton.mp h)
theorem addL_sub {acc : List It2} {x y : It2} (h : y ∈ acc) : y ∈ addL acc x := by
  unfold addL
  split
  · exact h
  · exact List.mem_append_left _ h
theorem addL_has (acc : List It2) (x : It2) : ∃ y ∈ addL acc x, y.1 = x.1 := by
  unfold addL
  split
  · rename_i h
    obtain ⟨y, hy, e⟩ := List.any_eq_true.mp h
    exact ⟨y, hy, of_decide_eq_true e⟩
  · exact ⟨x, by simp, rfl⟩
theorem addL_nodup {acc : List It2} {x : It2} (h : (acc.map (·.1)).Nodup) : ((addL acc x).map (·.1)).Nodup := by
  unfold addL
  split
  · exact h
  · rename_i n
    rw [List.map_append, List.nodup_append]
    refine ⟨h, by simp, fun a ha b hb => ?_⟩
    obtain ⟨y, hy, rfl⟩ := List.mem_map.mp ha
    have : b = x.1 := by simpa using hb
    rw [this]
    exact fun e => n (List.any_eq_true.mpr ⟨y, hy, decide_eq_true e⟩)
theorem adds_mem {f : It2 → It2} : ∀ (xs acc : List It2) {y : It2}, y ∈ xs.foldl (fun acc x => addL acc (f x)) acc → y ∈ acc ∨ ∃ x ∈ xs, y = f x
  | [], acc, y, h => .inl h
  | x :: xs, acc, y, h => by
    rcases adds_mem xs _ h with h | ⟨z, hz, e⟩
    · rcases addL_mem h with h | h
      · exact .inl h
      · exact .inr ⟨x, List.mem_cons_self, h⟩
    · exact .inr ⟨z, List.mem_cons_of_mem _ hz, e⟩
theorem adds_sub {f : It2 → It2} : ∀ (xs acc : List It2) {y : It2}, y ∈ acc → y ∈ xs.foldl (fun acc x => addL acc (f x)) acc
  | [], _, _, h => h
  | x :: xs, acc, y, h => adds_sub xs _ (addL_sub h)
theorem adds_has {f : It2 → It2} : ∀ (xs acc : List It2) {x : It2}, x ∈ xs → ∃ y ∈ xs.foldl (fun acc x => addL acc (f x)) acc, y.1 = (f x).1
  | z :: xs, acc, x, h => by
    rcases List.mem_cons.mp h with rfl | h
    · obtain ⟨y, hy, e⟩ := addL_has acc (f x)
      exact ⟨y, adds_sub xs _ hy, e⟩
    · exact adds_has xs _ h
theorem adds_nodup {f : It2 → It2} : ∀ (xs acc : List It2), (acc.map (·.1)).Nodup → ((xs.foldl (fun acc x => addL acc (f x)) acc).map (·.1)).Nodup
  | [], _, h => h
  | x :: xs, acc, h => adds_nodup xs _ (addL_nodup h)
/-- what stands in the layer i -/
def Good (r w d : Str) (s0 : Int) (cs : List Nat) (i : Nat) (x : It2) : Prop := Dom w x.1 ∧ x.2.length = i ∧ (∀ n ∈ x.2, n = 0 ∨ n = 1) ∧ ledP r w d s0 (cs.zip x.2) = x.1
theorem dom_lt {r w c : Str} {s : Int} (dm : Dom w s) (hw : w ∈ WR) : Dom w (ltF r w c s) := by
  unfold ltF
  split
  · exact dom_rd dm
  · split
    · exact dom_aw dm hw (.inr rfl)
    · exact dom_aw dm hw (.inl rfl)
theorem dom_dN {w d : Str} {s : Int} (dm : Dom w s) : ∀ n, Dom w (dN d n s)
  | 0 => dm
  | n + 1 => dom_de (dom_dN dm n)
theorem zip_snoc {α β : Type} : ∀ (cs : List α) (p : List β) {c : α} {n : β}, cs[p.length]? = some c → cs.zip (p ++ [n]) = cs.zip p ++ [(c, n)]
  | [], p, c, n, h => by simp at h
  | a :: cs, [], c, n, h => by
    have : a = c := by simpa using h
    subst this
    simp
  | a :: cs, b :: p, c, n, h => by
    have ih := zip_snoc cs p (c := c) (n := n) (by simpa using h)
    rw [List.cons_append, List.zip_cons_cons, List.zip_cons_cons, ih]
    rfl
theorem zip_long {α β : Type} : ∀ (cs : List α) (p q : List β), cs.length ≤ p.length → cs.zip (p ++ q) = cs.zip p
  | [], p, q, _ => by simp
  | a :: cs, [], q, h => by simp at h
  | a :: cs, b :: p, q, h => by
    rw [List.cons_append, List.zip_cons_cons, List.zip_cons_cons, zip_long cs p q (by simpa using h)]
theorem good_next {r w d : Str} {s0 : Int} {cs : List Nat} {c : Nat} {x y : It2} (hw : w ∈ WR) (g : Good r w d s0 cs x.2.length x) (hc : cs[x.2.length]? = some c) (hy : y ∈ exts d x) : Good r w d s0 cs (x.2.length + 1) (opL r w c y) := by
  obtain ⟨n, hn, rfl⟩ := ext_of hy
  obtain ⟨g1, _, g3, g4⟩ := g
  refine ⟨dom_lt (dom_dN g1 _) hw, by unfold opL; simp, fun m hm => ?_, ?_⟩
  · rcases List.mem_append.mp hm with hm | hm
    · exact g3 m hm
    · rw [List.mem_singleton.mp hm]
      exact hn
  · show ledP r w d s0 (cs.zip (x.2 ++ [n])) = ltF r w (one c) (dN d n.toNat x.1)
    rw [zip_snoc cs x.2 hc]
    unfold ledP
    rw [List.foldl_append]
    show ltF r w (one c) (dN d n.toNat (ledP r w d s0 (cs.zip x.2))) = _
    rw [g4]
theorem good_end {r w d : Str} {s0 : Int} {cs : List Nat} {x y : It2} (g : Good r w d s0 cs cs.length x) (hy : y ∈ exts d x) : y.2.length = cs.length + 1 ∧ (∀ n ∈ y.2, n = 0 ∨ n = 1) ∧ ledF r w d s0 cs y.2 = y.1 := by
  obtain ⟨n, hn, rfl⟩ := ext_of hy
  obtain ⟨g1, g2, g3, g4⟩ := g
  refine ⟨by simp [g2], fun m hm => ?_, ?_⟩
  · rcases List.mem_append.mp hm with hm | hm
    · exact g3 m hm
    · rw [List.mem_singleton.mp hm]
      exact hn
  · show dN d ((x.2 ++ [n]).getD cs.length 0).toNat (ledP r w d s0 (cs.zip (x.2 ++ [n]))) = dN d n.toNat x.1
    rw [zip_long cs x.2 [n] (by omega), g4, List.getD_eq_getElem?_getD, ← g2, List.getElem?_append_right (Nat.le_refl _), Nat.sub_self]
    rfl
theorem good_next_all {r w d : Str} {s0 : Int} {cs : List Nat} {i c : Nat} (hw : w ∈ WR) {l : List It2} (g : ∀ x ∈ l, Good r w d s0 cs i x) (hc : cs[i]? = some c) : ∀ y ∈ nextL r w d l c, Good r w d s0 cs (i + 1) y := fun y hy => by
  unfold nextL at hy
  rcases adds_mem _ _ hy with h | ⟨z, hz, rfl⟩
  · cases h
  · obtain ⟨x, hx, hzx⟩ := List.mem_flatMap.mp hz
    have gx := g x hx
    have e := gx.2.1
    have := good_next hw (by rw [e]; exact gx) (by rw [e]; exact hc) hzx
    rwa [e] at this
theorem lays_good {r w d : Str} {s0 : Int} {cs : List Nat} (hw : w ∈ WR) (h0 : Dom w s0) : ∀ i, i ≤ cs.length → ∀ x ∈ lays r w d s0 (cs.take i), Good r w d s0 cs i x
  | 0, _, x, hx => by
    have : x = (s0, []) := by simpa [lays] using hx
    subst this
    exact ⟨h0, rfl, fun n hn => by simp at hn, by simp [ledP]⟩
  | i + 1, hi, x, hx => by
    obtain ⟨c, hc⟩ : ∃ c, cs[i]? = some c := ⟨_, List.getElem?_eq_getElem (by omega)⟩
    rw [List.take_add_one, hc, Option.toList_some, lays_snoc] at hx
    exact good_next_all hw (lays_good hw h0 i (by omega)) hc x hx
theorem lays_nodup {r w d : Str} {s0 : Int} (cs : List Nat) : ((lays r w d s0 cs).map (·.1)).Nodup := by
  refine snoc_ind (p := fun cs => ((lays r w d s0 cs).map (·.1)).Nodup) (by simp [lays]) (fun l c _ => ?_) cs
  rw [lays_snoc]
  unfold nextL
  exact adds_nodup _ _ (by simp)
theorem row_at {w : Str} {s : Int} (f : Int → List Int) (h : s ∈ stN w) : ((stN w).map f).getD s.toNat [] = f s := by
  rw [List.getD_eq_getElem?_getD, List.getElem?_map]
  have : (stN w)[s.toNat]? = some s := by
    unfold stN at h ⊢
    split at h
    · rename_i e
      rw [if_pos e]
      simp only [List.mem_cons, List.not_mem_nil, or_false] at h
      rcases h with rfl | rfl | rfl | rfl <;> rfl
    · rename_i e
      rw [if_neg e]
      simp only [List.mem_cons, List.not_mem_nil, or_false] at h
      rcases h with rfl | rfl <;> rfl
  rw [this]
  rfl
theorem clo_mem {w d : Str} {s k : Int} (hs : Dom w s) (hd : d ∈ DV) : k ∈ clo d s ↔ k = s ∨ k ∈ dvI d s := by
  unfold clo
  rw [pick_mem, Bool.or_eq_true, decide_eq_true_eq, List.contains_iff_mem]
  have s4 : s ∈ S4 := by
    rw [s4_mem]
    have := hs.st
    unfold St4 at this
    omega
  obtain ⟨_, c2, _⟩ := clo_fact d hd s s4
  exact ⟨fun h => h.2, fun h => ⟨c2 k (by rcases h with h | h <;> simp [h]), h⟩⟩
theorem ext_states {d : Str} {x : It2} {k : Int} : (∃ y ∈ exts d x, y.1 = k) ↔ k = x.1 ∨ k ∈ dvI d x.1 := by
  unfold exts
  constructor
  · rintro ⟨y, hy, rfl⟩
    rcases List.mem_cons.mp hy with rfl | hy
    · exact .inl rfl
    · obtain ⟨e, he, rfl⟩ := List.mem_map.mp hy
      exact .inr he
  · rintro (rfl | h)
    · exact ⟨_, List.mem_cons_self, rfl⟩
    · exact ⟨_, List.mem_cons_of_mem _ (List.mem_map.mpr ⟨k, h, rfl⟩), rfl⟩
/-- the layers' states and those that the effect tells -/
theorem lays_row {r w d : Str} {s0 : Int} {cs : List Nat} (kd : Kd r w d) (h0 : Dom w s0) (hcs : ∀ c ∈ cs, c ∈ ("01r" : Str).cps.toList) : ∀ k : Int, (∃ y ∈ (lays r w d s0 cs).flatMap (exts d), y.1 = k) ↔ k ∈ (ofR false r w d cs).getD s0.toNat [] := by
  refine snoc_ind (p := fun cs => (∀ c ∈ cs, c ∈ ("01r" : Str).cps.toList) → ∀ k : Int, (∃ y ∈ (lays r w d s0 cs).flatMap (exts d), y.1 = k) ↔ k ∈ (ofR false r w d cs).getD s0.toNat []) (fun _ k => ?_) (fun l c ih hl k => ?_) cs hcs
  · show (∃ y ∈ [(s0, ([] : List Int))].flatMap (exts d), y.1 = k) ↔ k ∈ (betw false w d).getD s0.toNat []
    unfold betw
    rw [List.flatMap_singleton, ext_states, row_at _ (dom_stN.mp h0)]
    exact (clo_mem h0 kd.2.2).symm
  · have ih := ih fun x hx => hl x (List.mem_append_left _ hx)
    have hc := hl c (List.mem_append_right _ List.mem_cons_self)
    have gd := lays_good (cs := l) (r := r) (d := d) kd.2.1 h0 l.length (Nat.le_refl _)
    rw [List.take_length] at gd
    rw [lays_snoc, ofR_snoc]
    unfold stepR
    rw [join_mem]
    have letrow : ∀ m, Dom w m → (letR r w (one c)).getD m.toNat [] = [ltF r w (one c) m] := fun m hm => by
      unfold letR
      rw [row_at _ (dom_stN.mp hm)]
      unfold ltF
      split
      · rfl
      · split <;> rfl
    have betrow : ∀ m, Dom w m → (betw false w d).getD m.toNat [] = clo d m := fun m hm => by
      unfold betw
      rw [row_at _ (dom_stN.mp hm)]
      rfl
    have domE : ∀ y ∈ (lays r w d s0 l).flatMap (exts d), Dom w y.1 := fun y hy => by
      obtain ⟨x, hx, hyx⟩ := List.mem_flatMap.mp hy
      obtain ⟨n, _, rfl⟩ := ext_of hyx
      exact dom_dN (gd x hx).1 _
    have b4 : ∀ m, Dom w m → 0 ≤ m ∧ m < 4 := fun m hm => by
      have := hm.st
      unfold St4 at this
      omega
    constructor
    · rintro ⟨y, hy, rfl⟩
      obtain ⟨x, hx, hyx⟩ := List.mem_flatMap.mp hy
      unfold nextL at hx
      rcases adds_mem _ _ hx with h | ⟨z, hz, rfl⟩
      · cases h
      · have dz := domE z hz
        have dl : Dom w (ltF r w (one c) z.1) := dom_lt dz kd.2.1
        obtain ⟨n, _, rfl⟩ := ext_of hyx
        refine ⟨b4 _ (dom_dN dl _), ltF r w (one c) z.1, ?_, ?_⟩
        · rw [join_mem]
          exact ⟨b4 _ dl, z.1, (ih z.1).mp ⟨z, hz, rfl⟩, by rw [letrow _ dz]; simp⟩
        · rw [betrow _ dl, clo_mem dl kd.2.2]
          exact ext_states.mp ⟨_, hyx, rfl⟩
    · rintro ⟨_, m, hm, hk⟩
      obtain ⟨_, m0, hm0, hmm⟩ := join_mem.mp hm
      obtain ⟨z, hz, rfl⟩ := (ih m0).mpr hm0
      have dz := domE z hz
      rw [letrow _ dz] at hmm
      have em : m = ltF r w (one c) z.1 := by simpa using hmm
      subst em
      have dl : Dom w (ltF r w (one c) z.1) := dom_lt dz kd.2.1
      rw [betrow _ dl, clo_mem dl kd.2.2] at hk
      obtain ⟨y, hy, ey⟩ := adds_has (f := opL r w c) ((lays r w d s0 l).flatMap (exts d)) [] hz
      have ey : y.1 = ltF r w (one c) z.1 := ey
      obtain ⟨v, hv, ev⟩ := ext_states.mpr (show k = y.1 ∨ k ∈ dvI d y.1 by rw [ey]; exact hk)
      exact ⟨v, List.mem_flatMap.mpr ⟨y, hy, hv⟩, ev⟩
theorem way_some {r w d : Str} {s0 e : Int} {cs : List Nat} {p : List Int} (hw : w ∈ WR) (h0 : Dom w s0) (h : wayF r w d s0 e cs = some p) : p.length = cs.length + 1 ∧ (∀ n ∈ p, n = 0 ∨ n = 1) ∧ ledF r w d s0 cs p = e := by
  unfold wayF at h
  obtain ⟨y, hy, rfl⟩ := Option.map_eq_some_iff.mp h
  have ye : y.1 = e := by simpa using List.find?_some hy
  obtain ⟨x, hx, hyx⟩ := List.mem_flatMap.mp (List.mem_of_find?_eq_some hy)
  have g := lays_good (cs := cs) (r := r) (d := d) hw h0 cs.length (Nat.le_refl _) x (by rw [List.take_length]; exact hx)
  obtain ⟨a, b, c⟩ := good_end g hyx
  exact ⟨a, b, c.trans ye⟩
theorem way_iff {r w d : Str} {s0 e : Int} {cs : List Nat} (kd : Kd r w d) (h0 : Dom w s0) (hcs : ∀ c ∈ cs, c ∈ ("01r" : Str).cps.toList) : (wayF r w d s0 e cs).isSome = ((ofR false r w d cs).getD s0.toNat []).contains e := by
  rw [Bool.eq_iff_iff, List.contains_iff_mem, ← lays_row kd h0 hcs e]
  unfold wayF
  rw [Option.isSome_map, List.find?_isSome]
  constructor
  · rintro ⟨y, hy, h⟩
    exact ⟨y, hy, of_decide_eq_true h⟩
  · rintro ⟨y, hy, h⟩
    exact ⟨y, hy, decide_eq_true h⟩
end Law

set_option Elab.async false
set_option linter.all false
set_option maxRecDepth 100000
set_option maxHeartbeats 4000000
namespace Law
open PySem PySem.Spec PySem.Calls PyProof.Rows L2 KG LamX
local macro_rules | `(tactic| walk_at "1") => `(tactic| first
  | (with_reducible refine w_var rfl ?_) | (with_reducible refine w_c ?_) | (with_reducible refine w_seq ?_) | (with_reducible refine w_asg ?_) | (with_reducible refine w_gname ?_) | (with_reducible refine w_op ?_) | (with_reducible refine w_un ?_)
  | (with_reducible refine w_add ?_) | (with_reducible refine w_sub ?_) | ((with_reducible refine' w_mod ?mo ?_); (case mo => first | assumption | decide | omega)) | (with_reducible refine w_and ?_) | (with_reducible refine w_or ?_) | (with_reducible refine w_xor ?_)
  | (with_reducible refine w_gt ?_) | (with_reducible refine w_lt ?_) | (with_reducible refine w_ge ?_) | (with_reducible refine w_le ?_) | ((with_reducible refine' w_eq ?sc ?_); (case sc => rfl)) | ((with_reducible refine' w_ne ?sc ?_); (case sc => rfl))
  | (with_reducible refine w_ret ?_) | (with_reducible refine w_next ?_) | (with_reducible refine w_ifs ?_) | (with_reducible refine w_ifx ?_) | (with_reducible refine w_test ?_) | (with_reducible refine w_tB ?_) | (with_reducible refine w_bl ?_)
  | ((with_reducible refine' w_ixL ?ixh ?ixa ?_); (case ixh => first | exact SqL.of (by assumption)); (case ixa => first | rfl | skip)) | ((with_reducible refine' w_ixT ?ixh ?ixa ?_); (case ixh => first | exact SqT.of (by assumption)); (case ixa => first | rfl | skip))
  | ((with_reducible refine' w_fld ?_)) | ((with_reducible refine' fld ?fh ?fc ?fn ?fl ?_); (case fh => assumption); (case fc => assumption); (case fn => assumption); (case fl => rfl)) | (with_reducible refine w_sfld ?_)
  | (with_reducible refine Or.inl ⟨_, rfl, ?_⟩) | (with_reducible refine w_gsub ?_) | (with_reducible refine w_andV ?_) | (with_reducible refine w_orV ?_)
  | (with_reducible refine w_nil ?_) | (with_reducible refine w_cons ?_) | (with_reducible refine w_tup ?_) | (with_reducible refine w_lst ?_) | (with_reducible refine w_and2 ?_) | (with_reducible refine w_or2 ?_) | (with_reducible refine w_not ?_) | (with_reducible refine w_cb ?_) | (with_reducible refine w_call ?_) | (with_reducible refine w_par ?_) | (with_reducible refine w_pnil ?_) | (with_reducible refine w_pcons ?_) | (with_reducible refine w_dput ?_) | (with_reducible refine w_dget ?_) | (with_reducible refine w_for ?_) | (with_reducible refine w_itup ?_) | (with_reducible refine w_ilist ?_) | (with_reducible refine w_irng ?_) | (with_reducible refine w_meth ?_) | (with_reducible refine w_make ?_) | (with_reducible refine w_makeK ?_) | (with_reducible refine w_methK ?_) | ((with_reducible refine' mth ?mh ?ml ?_); (case mh => assumption); (case ml => rfl)) | (with_reducible refine w_drop ?_))
local macro_rules | `(tactic| walk_at "go") => `(tactic| ((repeat (walk_at "1")); try dsimp only))
local macro_rules | `(tactic| walk_at "1") => `(tactic| first
  | (with_reducible refine w_notV ?_) | (with_reducible refine w_callK ?_) | (with_reducible refine w_lc ?_) | (with_reducible refine w_chain ?_) | (with_reducible refine w_neg ?_) | ((with_reducible refine' w_shr ?mo ?_); (case mo => first | assumption | omega)))
theorem w_catT {K : PySem.W.Frag} {a b : Addr} {xs ys : List V} {H : Hp} {Q : VK} (ha : H a = some (.tup xs)) (hb : H b = some (.tup ys)) (hz : xs.length + ys.length ≤ sizeLine) (q : ∀ p H', H' p = some (.tup (xs ++ ys)) → Same H H' → Q (.ref p) H') : rCatA K (.ref a) (.ref b) H Q :=
  ⟨a, b, xs, ys, rfl, rfl, SqT.of ha, SqT.of hb, hz, fun e => by
    subst e
    exact q b H (by simpa using hb) fun _ _ z => z, fun _ e => by
    subst e
    exact q a H (by simpa using ha) fun _ _ z => z, fun _ _ p np => q p _ upd_same fun b o z => by
    rw [upd_ne (ne_of_none z np)]
    exact z⟩
theorem dgetT {v : V} {p b : Addr} {H : Hp} {Q : VK} {kvs : List (List L2.Key × V)} {k : List L2.Key} (h : H p = some (.dT kvs)) (hb : H b = some (.tup (k.map kV))) (e : valV kvs k = some v) (q : Q v H) : DGetQ (.ref p) (.ref b) H Q := ⟨p, v, rfl, by rw [← e]; exact DGet.t h hb, q⟩
theorem dputT {v : V} {p b : Addr} {H : Hp} {QH : Hp → Prop} {kvs : List (List L2.Key × V)} {k : List L2.Key} (h : H p = some (.dT kvs)) (hb : H b = some (.tup (k.map kV))) (l : kvs.length < sizeLine)
    (q : ∀ H' : Hp, H' p = some (.dT (putK kvs k v)) → (∀ b, b ≠ p → H' b = H b) → QH H') : DPutQ v (.ref p) (.ref b) H QH := ⟨p, _, rfl, DPut.t h hb l, q _ upd_same fun b nb => upd_ne nb⟩
abbrev It3 := Nat × Int × List Int
def key3 (i : Nat) (s : Int) : List L2.Key := [.inl (i : Int), .inl s]
def mk3 (i : Nat) (x : It2) : It3 := (i, x.1, x.2)
/-- the dict's pairs, the order's keys, as they are meant -/
def Its (H : Hp) : List (List L2.Key × V) → List V → List It3 → Prop
  | [], [], [] => True
  | kv :: kvs, o :: os, it :: its => (∃ b, kv = (key3 it.1 it.2.1, V.ref b) ∧ H b = some (.tup (it.2.2.map V.int))) ∧ (∃ a, o = .ref a ∧ H a = some (.tup [.int (it.1 : Int), .int it.2.1])) ∧ Its H kvs os its
  | _, _, _ => False
theorem Its.tups {H H' : Hp} (t : ∀ b xs, H b = some (.tup xs) → H' b = some (.tup xs)) : ∀ {kvs : List (List L2.Key × V)} {os : List V} {its : List It3}, Its H kvs os its → Its H' kvs os its
  | [], [], [], _ => trivial
  | _ :: _, _ :: _, _ :: _, ⟨⟨b, e, h⟩, ⟨a, e2, h2⟩, r⟩ => ⟨⟨b, e, t _ _ h⟩, ⟨a, e2, t _ _ h2⟩, Its.tups t r⟩
theorem Its.snoc {H : Hp} {i : Nat} {s : Int} {p : List Int} {a b : Addr} (hb : H b = some (.tup (p.map V.int))) (ha : H a = some (.tup [.int (i : Int), .int s])) : ∀ {kvs : List (List L2.Key × V)} {os : List V} {its : List It3}, Its H kvs os its → Its H (kvs ++ [(key3 i s, .ref b)]) (os ++ [.ref a]) (its ++ [(i, s, p)])
  | [], [], [], _ => ⟨⟨b, rfl, hb⟩, ⟨a, rfl, ha⟩, trivial⟩
  | _ :: _, _ :: _, _ :: _, ⟨x, y, r⟩ => ⟨x, y, Its.snoc hb ha r⟩
theorem Its.len {H : Hp} : ∀ {kvs : List (List L2.Key × V)} {os : List V} {its : List It3}, Its H kvs os its → kvs.length = its.length ∧ os.length = its.length
  | [], [], [], _ => ⟨rfl, rfl⟩
  | _ :: _, _ :: _, _ :: _, ⟨_, _, r⟩ => ⟨congrArg (· + 1) (Its.len r).1, congrArg (· + 1) (Its.len r).2⟩
theorem Its.get {H : Hp} {it : It3} : ∀ {kvs : List (List L2.Key × V)} {os : List V} {its : List It3} {j : Nat}, Its H kvs os its → its[j]? = some it → ∃ a, os[j]? = some (.ref a) ∧ H a = some (.tup [.int (it.1 : Int), .int it.2.1])
  | [], [], [], _, _, hj => by cases hj
  | _ :: _, _ :: _, _ :: _, 0, ⟨_, ⟨a, e, h⟩, _⟩, hj => by
    cases hj
    exact ⟨a, by rw [e]; rfl, h⟩
  | _ :: _, _ :: _, _ :: _, j + 1, ⟨_, _, r⟩, hj => Its.get (j := j) r hj
theorem key3_inj {i j : Nat} {s t : Int} (h : key3 i s = key3 j t) : i = j ∧ s = t := by
  unfold key3 at h
  simp only [List.cons.injEq, Sum.inl.injEq, and_true] at h
  exact ⟨by omega, h.2⟩
theorem Its.none {H : Hp} {i : Nat} {s : Int} : ∀ {kvs : List (List L2.Key × V)} {os : List V} {its : List It3}, Its H kvs os its → (∀ it ∈ its, ¬(it.1 = i ∧ it.2.1 = s)) → valV kvs (key3 i s) = none
  | [], [], [], _, _ => rfl
  | kv :: kvs, _ :: _, it :: _, ⟨⟨b, e, _⟩, _, r⟩, h => by
    have n : ¬ kv.1 = key3 i s := fun z => by
      rw [e] at z
      exact h it List.mem_cons_self (key3_inj z)
    have ih := Its.none r fun x hx => h x (List.mem_cons_of_mem _ hx)
    unfold valV at ih ⊢
    rw [List.find?_cons, decide_eq_false n]
    exact ih
theorem Its.some {H : Hp} {it : It3} : ∀ {kvs : List (List L2.Key × V)} {os : List V} {its : List It3}, Its H kvs os its → it ∈ its → (∀ x ∈ its, x.1 = it.1 → x.2.1 = it.2.1 → x = it) → ∃ b, valV kvs (key3 it.1 it.2.1) = some (.ref b) ∧ H b = some (.tup (it.2.2.map V.int))
  | [], [], [], _, hm, _ => by cases hm
  | kv :: kvs, _ :: _, x :: its, ⟨⟨b, e, hb⟩, _, r⟩, hm, h => by
    by_cases c : kv.1 = key3 it.1 it.2.1
    · have z := c
      rw [e] at z
      obtain ⟨z1, z2⟩ := key3_inj z
      have ex := h x List.mem_cons_self z1 z2
      subst ex
      refine ⟨b, ?_, hb⟩
      unfold valV
      rw [List.find?_cons, decide_eq_true c, e]
      rfl
    · have hm' : it ∈ its := by
        rcases List.mem_cons.mp hm with rfl | hm
        · exact absurd (by rw [e]) c
        · exact hm
      obtain ⟨b', e', hb'⟩ := Its.some r hm' fun y hy => h y (List.mem_cons_of_mem _ hy)
      refine ⟨b', ?_, hb'⟩
      unfold valV at e' ⊢
      rw [List.find?_cons, decide_eq_false c]
      exact e'
theorem put_new {kvs : List (List L2.Key × V)} {k : List L2.Key} {v : V} (h : valV kvs k = none) : putK kvs k v = kvs ++ [(k, v)] := by
  unfold putK
  rw [if_neg]
  intro z
  obtain ⟨x, hx, e⟩ := List.any_eq_true.mp z
  unfold valV at h
  rw [Option.map_eq_none_iff, List.find?_eq_none] at h
  exact h x hx e
theorem Its.has {H : Hp} {it : It3} : ∀ {kvs : List (List L2.Key × V)} {os : List V} {its : List It3}, Its H kvs os its → it ∈ its → ∃ b, valV kvs (key3 it.1 it.2.1) = Option.some (V.ref b)
  | [], [], [], _, hm => by cases hm
  | kv :: kvs, _ :: _, x :: its, ⟨⟨b, e, hb⟩, _, r⟩, hm => by
    by_cases c : kv.1 = key3 it.1 it.2.1
    · refine ⟨b, ?_⟩
      unfold valV
      rw [List.find?_cons, decide_eq_true c, e]
      rfl
    · have hm' : it ∈ its := by
        rcases List.mem_cons.mp hm with rfl | hm
        · exact absurd (by rw [e]) c
        · exact hm
      obtain ⟨b', e'⟩ := Its.has r hm'
      refine ⟨b', ?_⟩
      unfold valV at e' ⊢
      rw [List.find?_cons, decide_eq_false c]
      exact e'
theorem adds_len {f : It2 → It2} : ∀ (xs acc : List It2), (xs.foldl (fun acc x => addL acc (f x)) acc).length ≤ acc.length + xs.length
  | [], acc => Nat.le_refl _
  | x :: xs, acc => by
    have ih := adds_len (f := f) xs (addL acc (f x))
    have : (addL acc (f x)).length ≤ acc.length + 1 := by
      unfold addL
      split
      · omega
      · simp
    rw [List.foldl_cons, List.length_cons]
    omega
theorem exts_len (d : Str) (x : It2) : (exts d x).length ≤ 2 := by
  unfold exts dvI
  split <;> simp
theorem flat_len (d : Str) : ∀ l : List It2, (l.flatMap (exts d)).length ≤ 2 * l.length
  | [] => Nat.le_refl _
  | x :: l => by
    have ih := flat_len d l
    have := exts_len d x
    rw [List.flatMap_cons, List.length_append, List.length_cons]
    omega
theorem few_states : ∀ (n : Nat) (l : List Int), l.Nodup → (∀ k ∈ l, 0 ≤ k ∧ k < (n : Int)) → l.length ≤ n
  | 0, l, _, h => by
    cases l with
    | nil => exact Nat.le_refl _
    | cons a l =>
      have := h a List.mem_cons_self
      omega
  | n + 1, l, nd, h => by
    have ih := few_states n (l.erase (n : Int)) (nd.erase _) fun k hk => by
      have hm := (nd.mem_erase_iff).mp hk
      have := h k hm.2
      have := hm.1
      omega
    by_cases c : (n : Int) ∈ l
    · rw [List.length_erase_of_mem c] at ih
      omega
    · rw [List.erase_of_not_mem c] at ih
      omega
theorem lays_few {r w d : Str} {s0 : Int} {cs : List Nat} {l : List It2} (nd : (l.map (·.1)).Nodup) (h : ∀ x ∈ l, Dom w x.1) : l.length ≤ 4 := by
  have := few_states 4 (l.map (·.1)) nd fun k hk => by
    obtain ⟨x, hx, rfl⟩ := List.mem_map.mp hk
    have := (h x hx).st
    unfold St4 at this
    show 0 ≤ x.1 ∧ x.1 < 4
    omega
  rwa [List.length_map] at this
def prs2 (d : Str) (s : Int) : List (Int × Int) := (s, 0) :: (dvI d s).map fun e => (e, 1)
theorem exts_prs (d : Str) (x : It2) : exts d x = (prs2 d x.1).map fun p => (p.1, x.2 ++ [p.2]) := by
  unfold exts prs2
  rw [List.map_cons, List.map_map]
  rfl
theorem find_pre {p : It2 → Bool} : ∀ {pre : List It2} {y : It2} {post : List It2}, (∀ z ∈ pre, p z = false) → p y = true → (pre ++ y :: post).find? p = some y
  | [], y, post, _, h => by rw [List.nil_append, List.find?_cons, h]
  | z :: pre, y, post, hp, h => by
    rw [List.cons_append, List.find?_cons, hp z List.mem_cons_self]
    exact find_pre (fun x hx => hp x (List.mem_cons_of_mem _ hx)) h
theorem take_flat {α β : Type} {f : α → List β} : ∀ (l : List α) {j : Nat} {x : α}, l[j]? = some x → l.flatMap f = (l.take j).flatMap f ++ f x ++ (l.drop (j + 1)).flatMap f
  | a :: l, 0, x, h => by
    cases h
    simp
  | a :: l, j + 1, x, h => by
    rw [List.flatMap_cons, List.take_succ_cons, List.flatMap_cons, take_flat l (by simpa using h)]
    simp
def WI (H H' : Hp) (F O : Addr) (its : List It3) : Prop := (∃ kvs os, H' F = some (.dT kvs) ∧ H' O = some (.lst os) ∧ Its H' kvs os its) ∧ Same H H'
theorem WI.sm {H H' H'' : Hp} {F O : Addr} {its : List It3} (h : WI H H' F O its) (s : Same H' H'') : WI H H'' F O its := by
  obtain ⟨⟨kvs, os, a, b, c⟩, z⟩ := h
  exact ⟨⟨kvs, os, s _ _ a, s _ _ b, c.tups fun _ _ z => s _ _ z⟩, z.trans s⟩
def Al2 {α β : Type} (R : α → β → Prop) : List α → List β → Prop
  | [], [] => True
  | a :: as, b :: bs => R a b ∧ Al2 R as bs
  | _, _ => False
theorem Al2.imp {α β : Type} {R S : α → β → Prop} (f : ∀ a b, R a b → S a b) : ∀ {as : List α} {bs : List β}, Al2 R as bs → Al2 S as bs
  | [], [], _ => trivial
  | _ :: _, _ :: _, h => ⟨f _ _ h.1, Al2.imp f h.2⟩
  | [], _ :: _, h => h.elim
  | _ :: _, [], h => h.elim
theorem Al2.snoc {α β : Type} {R : α → β → Prop} {a : α} {b : β} (r : R a b) : ∀ {as : List α} {bs : List β}, Al2 R as bs → Al2 R (as ++ [a]) (bs ++ [b])
  | [], [], _ => ⟨r, trivial⟩
  | _ :: _, _ :: _, h => ⟨h.1, Al2.snoc r h.2⟩
  | [], _ :: _, h => h.elim
  | _ :: _, [], h => h.elim
theorem Al2.len {α β : Type} {R : α → β → Prop} : ∀ {as : List α} {bs : List β}, Al2 R as bs → as.length = bs.length
  | [], [], _ => rfl
  | _ :: _, _ :: _, h => congrArg (· + 1) (Al2.len h.2)
  | [], _ :: _, h => h.elim
  | _ :: _, [], h => h.elim
theorem Al2.at {α β : Type} {R : α → β → Prop} {j : Nat} {a : α} : ∀ {as : List α} {bs : List β}, Al2 R as bs → as[j]? = some a → ∃ b, bs[j]? = some b ∧ R a b := by
  induction j with
  | zero =>
    intro as bs h e
    match as, bs, h with
    | x :: as, y :: bs, h => cases e; exact ⟨y, rfl, h.1⟩
  | succ j ih =>
    intro as bs h e
    match as, bs, h with
    | x :: as, y :: bs, h => exact ih h.2 e
abbrev sgW (t F O : Addr) (s0 e : Int) (x : Str) (v6 v7 v8 v9 v10 v11 v12 : Option V) : L2.St := [some (.ref t), some (.int s0), some (.int e), some (.str x), some (.ref F), some (.ref O), v6, v7, v8, v9, v10, v11, v12]
def Kq (F O : Addr) (H H' : Hp) : Prop := ∀ b o, H b = some o → b ≠ F → b ≠ O → H' b = some o
theorem Kq.sm {F O : Addr} {H H' H'' : Hp} (k : Kq F O H H') (s : Same H' H'') : Kq F O H H'' := fun b o z n1 n2 => s _ _ (k b o z n1 n2)
theorem Kq.of {F O : Addr} {H H' : Hp} (s : Same H H') : Kq F O H H' := fun b o z _ _ => s _ _ z
theorem uniq_of {l : List It2} : (l.map (·.1)).Nodup → ∀ {x y : It2}, x ∈ l → y ∈ l → x.1 = y.1 → x = y := by
  induction l with
  | nil => intro _ x y hx; cases hx
  | cons a l ih =>
    intro nd x y hx hy e
    rw [List.map_cons, List.nodup_cons] at nd
    obtain ⟨n1, n2⟩ := nd
    rcases List.mem_cons.mp hx with ex | hx'
    · rcases List.mem_cons.mp hy with ey | hy'
      · rw [ex, ey]
      · exact (n1 (List.mem_map.mpr ⟨y, hy', by rw [← ex]; exact e.symm⟩)).elim
    · rcases List.mem_cons.mp hy with ey | hy'
      · exact (n1 (List.mem_map.mpr ⟨x, hx', by rw [← ey]; exact e⟩)).elim
      · exact ih n2 hx' hy' e
def spWay : Sp := fun vs H Q _ => ∃ (t : Addr) (r w d : Str) (s0 e : Int) (x : Str), vs = [.ref t, .int s0, .int e, .str x] ∧ H t = some (.tup [.str r, .str w, .str d]) ∧ Kd r w d ∧ Dom w s0 ∧ Lets x ∧
  (wayF r w d s0 e x.cps.toList = none → ∀ H', Same H H' → Q .non H') ∧ (∀ p tp H', wayF r w d s0 e x.cps.toList = some p → H' tp = some (.tup (p.map V.int)) → Same H H' → Q (.ref tp) H')
section
variable {P : Program} {w : World} {K : PySem.W.Frag} {mg : Str → Option Value} {base : Heap} {C KB aW aI : Addr} {mc : Value}
theorem ok_way (D : DefAt K mg "_law_way" s__law_way ["_law_words_here", "_law_state", "_law_end", "_law_letters_here"]) (B : B1 mg) (c_law_deeds : Cal P w K mg base 1 "_law_deeds" spDvL) (c_law_letter : Cal P w K mg base 2 "_law_letter" spLt) : Cal P w K mg base 3 "_law_way" spWay := by
  refine D.cal (k := 2) sc__law_way (fun vs H Q E h => ?_) (fun f cdv A outer s00 H vs Q E rm gd h => ?_)
  · obtain ⟨t, r, wr, d, s0, e, x, rfl, _⟩ := h
    rfl
  · obtain ⟨t, r, wr, d, s0, e, x, rfl, ht, kd, dm0, lx, qn, qs_⟩ := h
    have hu := hu_of rm
    have big : x.length ≤ sizeLine := Nat.le_trans (show x.cps.size ≤ 40 from lx.1) (by decide)
    refine ⟨_, (pss_cons (ps_set (i := 4) sc__law_way.nd rfl (Or.inl rfl) (pe_dT1 hu (pe_tup (pa_cons pe_int (pa_cons (pv 1) pa_nil))) (pe_tup pa_nil)))
    (pss_cons (ps_set (i := 5) sc__law_way.nd rfl (Or.inl rfl) (pe_lst (pa_cons (pe_tup (pa_cons pe_int (pa_cons (pv 1) pa_nil))) pa_nil)))
    (pss_cons (ps_for PassesOwn.never rfl (pi_range1 rfl B.g_range (pa_cons (pe_op op_add (pe_callB call_len_str (by rfl) B.g_len (by decide +kernel) (pa_cons (pv 3) pa_nil)) pe_int) pa_nil)) (pg_name (i := 6) sc__law_way.nd rfl (Or.inr rfl))
      (pss_cons (ps_setLc (i := 7) (own := [("_law_key", 8)]) (g := (gName 8)) (by rfl) sc__law_way.nd rfl rfl (sw_true rfl rfl rfl (by decide +kernel)) (pi_list (pv 5)) (blkOk_by (own := [("_law_key", 8)]) (N := ["_law_words_here", "_law_state", "_law_end", "_law_letters_here", "_law_found", "_law_order", "_law_at", "_law_layer", "_law_key", "_law_ends_here", "_law_one", "_law_count", "_law_later"]) (sc := defScope s__law_way) (by decide +kernel)) (fun _ _ _ _ _ => (pg_name (i := 8) sc__law_way.nd rfl (Or.inl rfl))) (fun _ _ _ _ _ => (pts_one (pt_cmpR op_eq (pe_ix (r := rIxT K) ix_tup (pv 8) pe_int (fun _ _ => rfl)) (pv 6) (nomark _)))) (fun _ _ _ _ _ => (pv 8)))
      (pss_one (ps_for PassesOwn.never rfl (pi_list (pv 7)) (pg_name (i := 8) sc__law_way.nd rfl (Or.inl rfl))
        (pss_cons (ps_set (i := 9) sc__law_way.nd rfl (Or.inl rfl) (pe_op op_cat (pe_lst (pa_cons (pe_tup (pa_cons (pe_ix ix_tup (pv 8) pe_int (fun _ _ => rfl)) (pa_cons pe_int pa_nil))) pa_nil)) (pe_lc (own := [("_law_one", 10)]) (g := (gName 10)) (by rfl) sc__law_way.nd (pi_tup (pc c_law_deeds rm (by decide) gd rfl (pa_cons (pe_ix ix_tup (pv 0) pe_int (fun _ _ => rfl)) (pa_cons (pe_ix ix_tup (pv 8) pe_int (fun _ _ => rfl)) pa_nil)))) (blkOk_by (own := [("_law_one", 10)]) (N := ["_law_words_here", "_law_state", "_law_end", "_law_letters_here", "_law_found", "_law_order", "_law_at", "_law_layer", "_law_key", "_law_ends_here", "_law_one", "_law_count", "_law_later"]) (sc := defScope s__law_way) (by decide +kernel)) (fun _ _ _ _ _ => (pg_name (i := 10) sc__law_way.nd rfl (Or.inl rfl))) (fun _ _ _ _ _ => pts_nil) (fun _ _ _ _ _ => (pe_tup (pa_cons (pv 10) (pa_cons pe_int pa_nil)))))))
        (pss_one (ps_for PassesOwn.never rfl (pi_list (pv 9)) (pg_tup rfl (pgs_cons (pg_name (i := 10) sc__law_way.nd rfl (Or.inl rfl)) (pgs_cons (pg_name (i := 11) sc__law_way.nd rfl (Or.inl rfl)) pgs_nil)))
          (pss_mid (ps_if (PW.pt (pw_and (pt_cmpR op_eq (pv 6) (pe_callB call_len_str (by rfl) B.g_len (by decide +kernel) (pa_cons (pv 3) pa_nil)) (nomark _)) (pw_and1 (pt_cmpR op_eq (pv 10) (pv 2) (nomark _)))))
            (pss_one (ps_ret (pe_op op_catA (pe_dget hu (pv 4) (pv 8) (fun _ _ => rfl)) (pe_tup (pa_cons (pv 11) pa_nil)))))
            pss_nil)
          (pss_one (ps_if (pt_cmpR op_lt (pv 6) (pe_callB call_len_str (by rfl) B.g_len (by decide +kernel) (pa_cons (pv 3) pa_nil)) (nomark _))
            (pss_cons (ps_set (i := 12) sc__law_way.nd rfl (Or.inl rfl) (pe_tup (pa_cons (pe_op op_add (pv 6) pe_int) (pa_cons (pc c_law_letter rm (by decide) gd rfl (pa_cons (pv 0) (pa_cons (pv 10) (pa_cons (pe_ix ix_str (pv 3) (pv 6) (fun _ _ => rfl)) pa_nil)))) pa_nil))))
            (pss_one (ps_if (pt_cmp (pc_dnotin hu (pv 12) (pv 4)))
              (pss_cons (ps_dput hu (pv 4) (pv 12) (pe_op op_catA (pe_dget hu (pv 4) (pv 8) (fun _ _ => rfl)) (pe_tup (pa_cons (pv 11) pa_nil))) rfl)
              (pss_one (ps_expr (pe_bm PySem.F.plainAttrs_list PySem.F.slot_list_append PySem.F.type_list_append mt_append (pv 5) (pa_cons (pv 12) pa_nil)))))
              pss_nil)))
            pss_nil))))))))))
    (pss_one (ps_ret pe_non))))), ?_⟩
    walk_at "go"
    intro F nF
    have zF : Same H (upd H F (.dT [])) := fun b u z => by
      rw [upd_ne (ne_of_none z nF)]
      exact z
    have hF0 : upd H F (.dT []) F = some (.dT []) := upd_same
    generalize upd H F (.dT []) = H0 at zF hF0
    walk_at "go"
    refine new (show 2 ≤ sizeLine by decide) fun k0 H1 n1 h1 s1 => ?_
    walk_at "go"
    refine new (show 0 ≤ sizeLine by decide) fun b0 H2 n2 h2 s2 => ?_
    have h1' := s2 _ _ h1
    refine ⟨s2 _ _ (s1 _ _ hF0), k0, key3 0 s0, rfl, h1', ?_⟩
    have nk : k0 ≠ F := fun z => by
      rw [z, hF0] at n1
      cases n1
    have nb : b0 ≠ F := fun z => by
      rw [z, s1 _ _ hF0] at n2
      cases n2
    have z3 : Same H (upd H2 F (.dT [(key3 0 s0, .ref b0)])) := fun b u z => by
      rw [upd_ne (ne_of_none z nF)]
      exact s2 _ _ (s1 _ _ (zF _ _ z))
    have hF3 : upd H2 F (.dT [(key3 0 s0, .ref b0)]) F = some (.dT [(key3 0 s0, .ref b0)]) := upd_same
    have hb3 : upd H2 F (.dT [(key3 0 s0, .ref b0)]) b0 = some (.tup []) := (upd_ne nb).trans h2
    generalize upd H2 F (.dT [(key3 0 s0, .ref b0)]) = H3 at z3 hF3 hb3
    walk_at "go"
    refine new (show 2 ≤ sizeLine by decide) fun a0 H4 n4 h4 s4 => ?_
    walk_at "go"
    refine new (show 1 ≤ sizeLine by decide) fun O H5 n5 h5 s5 => ?_
    have h5 : H5 O = some (.lst [.ref a0]) := h5
    have w0 : WI H H5 F O [(0, s0, [])] := ⟨⟨_, _, s5 _ _ (s4 _ _ hF3), h5, ⟨b0, rfl, s5 _ _ (s4 _ _ hb3)⟩, ⟨a0, rfl, s5 _ _ h4⟩, trivial⟩, z3.trans (s4.trans s5)⟩
    have nO : H O = none := by
      cases z : H O with
      | none => rfl
      | some o =>
        rw [s4 _ _ (z3 _ _ z)] at n5
        cases n5
    have nFO : F ≠ O := fun z => by
      rw [← z, s4 _ _ hF3] at n5
      cases n5
    clear zF hF0 n1 h1 s1 n2 h2 s2 h1' nk nb z3 hF3 hb3 n4 h4 s4 n5 h5 s5
    walk_at "go"
    refine ⟨x, rfl, big, ?_⟩
    walk_at "go"
    obtain ⟨L, eL⟩ : ∃ n, x.cps.size = n := ⟨_, rfl⟩
    have ec : x.cps.toList.length = L := by rw [Array.length_toList, eL]
    have ej : ((x.length : Int) + 1) = ((L + 1 : Nat) : Int) := by
      rw [← eL]
      rfl
    have elx : (x.length : Int) = (L : Nat) := by
      rw [← eL]
      rfl
    rw [ej]
    have L40 : L ≤ 40 := eL ▸ lx.1
    obtain ⟨cs, hcs⟩ : ∃ cs, x.cps.toList = cs := ⟨_, rfl⟩
    rw [hcs] at qn qs_ ec
    have lcs : ∀ c ∈ cs, c ∈ ("01r" : Str).cps.toList := hcs ▸ lx.2
    obtain ⟨LL, hLL⟩ : ∃ LL : Nat → List It3, LL = fun i => if i ≤ L then (lays r wr d s0 (cs.take i)).map (mk3 i) else [] := ⟨_, rfl⟩
    have LLi : ∀ i, i ≤ L → LL i = (lays r wr d s0 (cs.take i)).map (mk3 i) := fun i hi => by
      rw [hLL]
      exact if_pos hi
    have LLe : LL (L + 1) = [] := by
      rw [hLL]
      exact if_neg (by omega)
    refine over_r (by omega) (by omega) (for_range (n := ((L + 1 : Nat) : Int).toNat) (fun i σ H' => (∃ v6 v7 v8 v9 v10 v11 v12, σ = sgW t F O s0 e x v6 v7 v8 v9 v10 v11 v12) ∧ (∃ pre, WI H H' F O (pre ++ LL i) ∧ (∀ it ∈ pre, it.1 < i) ∧ pre.length ≤ 4 * i) ∧ (i = L + 1 → wayF r wr d s0 e cs = none)) ⟨⟨_, _, _, _, _, _, _, rfl⟩, ⟨[], by rw [LLi 0 (Nat.zero_le _)]; exact w0, fun it h => by simp at h, Nat.le_refl _⟩, fun z => by omega⟩ ?_ ?_)
    · rintro i σ H6 hi ⟨⟨v6, v7, v8, v9, v10, v11, v12, rfl⟩, ⟨pre, w6, hpre, lpre⟩, _⟩
      rw [Int.toNat_natCast] at hi
      rw [Int.zero_add]
      have hiL : i ≤ L := by omega
      rw [LLi i hiL] at w6
      obtain ⟨l, hl⟩ : ∃ l, lays r wr d s0 (cs.take i) = l := ⟨_, rfl⟩
      have gd_ := lays_good (cs := cs) (r := r) (d := d) kd.2.1 dm0 i (by omega)
      have nd := lays_nodup (r := r) (w := wr) (d := d) (s0 := s0) (cs.take i)
      rw [hl] at gd_ nd w6
      have l4 := lays_few (r := r) (d := d) (s0 := s0) (cs := cs) nd fun y hy => (gd_ y hy).1
      walk_at "go"
      obtain ⟨⟨kvs, os, gF, gO, its⟩, s6⟩ := id w6
      refine over_l (SqL.of gO) ?_
      intro  D7 nD
      have zD : Same H6 (upd H6 D7 (.lst [])) := fun b u z => by
        rw [upd_ne (ne_of_none z nD)]
        exact z
      refine lc_list (K := K) (a := O) (xs := os) (fun j H' => ∃ las : List Addr, H' D7 = some (.lst (las.map V.ref)) ∧ Al2 (fun a (it : It3) => H' a = some (.tup [.int (it.1 : Int), .int it.2.1])) las (((pre ++ l.map (mk3 i)).take j).filter fun it => decide (it.1 = i)) ∧ Same H6 H') ⟨[], upd_same, trivial, zD⟩ (fun j H' _ ⟨_, _, _, s⟩ => SqL.of (s _ _ gO)) (fun j y H7 hy ⟨las, hD, al, s7⟩ => ?_) (fun H7 ⟨las, hD, al, s7⟩ => ?_)
      · obtain ⟨it, hit⟩ : ∃ it, (pre ++ l.map (mk3 i))[j]? = some it := by
          have := (List.getElem?_eq_some_iff.mp hy).1
          exact ⟨_, List.getElem?_eq_getElem (by rw [← its.len.2]; exact this)⟩
        obtain ⟨a, ea, ha⟩ := its.get hit
        rw [ea] at hy
        cases hy
        have ha7 := s7 _ _ ha
        have few7 : las.length < sizeLine := by
          have h1 := al.len
          have h2 := List.length_filter_le (fun it : It3 => decide (it.1 = i)) ((pre ++ l.map (mk3 i)).take j)
          have h3 := List.length_take_le j (pre ++ l.map (mk3 i))
          rw [List.length_take, List.length_append, List.length_map] at h2
          exact big_of (by omega)
        walk_at "go"
        refine ⟨rfl, ?_⟩
        walk_at "go"
        have ef : ((pre ++ l.map (mk3 i)).take (j + 1)).filter (fun it => decide (it.1 = i)) = ((pre ++ l.map (mk3 i)).take j).filter (fun it => decide (it.1 = i)) ++ (if it.1 = i then [it] else []) := by
          rw [List.take_add_one, hit, List.filter_append]
          congr 1
          by_cases c : it.1 = i
          · rw [if_pos c]
            simp [c]
          · rw [if_neg c]
            simp [c]
        rw [ef]
        by_cases c : it.1 = i
        · rw [if_pos c]
          refine iteYs (by simp [c]) ?_
          walk_at "go"
          have kK : ∀ b xs, H7 b = some (.tup xs) → upd H7 D7 (.lst (las.map V.ref ++ [.ref a])) b = some (.tup xs) := fun b xs z => by
            rw [upd_ne (fun e => by rw [e, hD] at z; cases z)]
            exact z
          refine ⟨_, hD, by rw [List.length_map]; exact few7, las ++ [a], by rw [upd_same, List.map_append]; rfl, Al2.snoc (R := fun a' (it : It3) => upd H7 D7 (.lst (las.map V.ref ++ [.ref a])) a' = some (.tup [.int (it.1 : Int), .int it.2.1])) ?_ ?_, fun b o z => ?_⟩
          · exact kK _ _ ha7
          · exact al.imp fun a' it' z => kK _ _ z
          · rw [upd_ne (ne_of_none z nD)]
            exact s7 _ _ z
        · rw [if_neg c, List.append_nil]
          refine iteNo (decide_eq_false fun z => c (by injection z; omega)) ?_
          exact ⟨las, hD, al, s7⟩
      have al : Al2 (fun a (it : It3) => H7 a = some (.tup [.int (it.1 : Int), .int it.2.1])) las (l.map (mk3 i)) := by
        have ef : ((pre ++ l.map (mk3 i)).take os.length).filter (fun it => decide (it.1 = i)) = l.map (mk3 i) := by
          rw [its.len.2, List.take_length, List.filter_append, List.filter_eq_nil_iff.mpr fun it h => by
            have := hpre it h
            simp
            omega, List.nil_append, List.filter_eq_self.mpr fun it h => by
            obtain ⟨y, _, rfl⟩ := List.mem_map.mp h
            simp [mk3]]
        rw [ef] at al
        exact al
      have w7 := w6.sm s7
      have nDF : D7 ≠ F := fun z => by
        rw [z, gF] at nD
        cases nD
      have nDO : D7 ≠ O := fun z => by
        rw [z, gO] at nD
        cases nD
      clear its gF gO zD s6 w6 nD
      obtain ⟨accF, hacc⟩ : ∃ accF : List It2 → List It2, accF = fun P => if i < L then P.foldl (fun acc y => addL acc (opL r wr (cs.getD i 0) y)) [] else [] := ⟨_, rfl⟩
      have acc0 : accF [] = [] := by
        rw [hacc]
        show (if i < L then _ else _) = _
        split <;> rfl
      walk_at "go"
      refine over_l (SqL.of hD) ?_
      refine for_list (K := K) (a := D7) (xs := las.map V.ref) (fun j σ H' => (∃ v8 v9 v10 v11 v12, σ = sgW t F O s0 e x (some (.int (i : Int))) (some (.ref D7)) v8 v9 v10 v11 v12) ∧ WI H H' F O (pre ++ l.map (mk3 i) ++ (accF ((l.take j).flatMap (exts d))).map (mk3 (i + 1))) ∧ (i = L → ∀ y ∈ (l.take j).flatMap (exts d), y.1 ≠ e) ∧ Kq F O H7 H') ⟨⟨_, _, _, _, _, rfl⟩, by rw [List.take_zero, List.flatMap_nil, acc0, List.map_nil, List.append_nil]; exact w7, fun _ y hy => by simp at hy, fun _ _ z _ _ => z⟩ (fun j σ H' _ ⟨_, _, _, kq⟩ => SqL.of (kq _ _ hD nDF nDO)) (fun j y σ H8 hy ⟨⟨v8', v9', v10', v11', v12', eσ⟩, w8, ne8, kq8⟩ => ?_) (fun σ H8 ⟨⟨v8', v9', v10', v11', v12', eσ⟩, w8, ne8, kq8⟩ => ?_)
      · subst eσ
        rw [List.getElem?_map] at hy
        obtain ⟨a, ha, rfl⟩ := Option.map_eq_some_iff.mp hy
        obtain ⟨it, hit, hta⟩ := al.at ha
        rw [List.getElem?_map] at hit
        obtain ⟨xj, hxj, rfl⟩ := Option.map_eq_some_iff.mp hit
        have hta : H7 a = some (.tup [.int (i : Int), .int xj.1]) := hta
        have gx := gd_ xj (List.mem_of_getElem? hxj)
        have naF : a ≠ F := fun z => by
          obtain ⟨⟨kvs', os', gF', _⟩, _⟩ := id w7
          rw [z, gF'] at hta
          cases hta
        have naO : a ≠ O := fun z => by
          obtain ⟨⟨kvs', os', _, gO', _⟩, _⟩ := id w7
          rw [z, gO'] at hta
          cases hta
        have hta8 := kq8 _ _ hta naF naO
        have ht8 : H8 t = some (.tup [.str r, .str wr, .str d]) := w8.2 _ _ ht
        walk_at "go"
        refine new (show 2 ≤ sizeLine by decide) fun q0 H9 m9 hq9 s9 => ?_
        walk_at "go"
        refine new (show 1 ≤ sizeLine by decide) fun G0 H10 m10 hG10 s10 => ?_
        have ht10 := s10 _ _ (s9 _ _ ht8)
        have hta10 := s10 _ _ (s9 _ _ hta8)
        walk_at "go"
        refine ⟨d, xj.1, rfl, fun tD H11 n11 hD11 s11 => ?_⟩
        have edv : dvL d xj.1 = (dvI d xj.1).map V.int := (dv_eq kd.2.2 gx.1.st).symm.trans (dvI_V d xj.1)
        rw [edv] at hD11
        refine over_t (SqT.of hD11) ?_
        intro D9 nD9
        have zD9 : Same H11 (upd H11 D9 (.lst [])) := fun b u z => by
          rw [upd_ne (ne_of_none z nD9)]
          exact z
        have few9 : (dvI d xj.1).length ≤ 1 := by
          unfold dvI
          split <;> simp
        refine lc_tup (K := K) (a := tD) (xs := (dvI d xj.1).map V.int) (fun m H' => ∃ qs : List Addr, H' D9 = some (.lst (qs.map V.ref)) ∧ Al2 (fun a e => H' a = some (.tup [.int e, .int 1])) qs ((dvI d xj.1).take m) ∧ Same H11 H') ⟨[], upd_same, trivial, zD9⟩ (fun m H' _ ⟨_, _, _, s⟩ => SqT.of (s _ _ hD11)) (fun m y H12 hy ⟨qs, hD9, aq, s12⟩ => ?_) (fun H12 ⟨qs, hD9, aq, s12⟩ => ?_)
        · obtain ⟨ee, hee, rfl⟩ := ints_at hy
          walk_at "go"
          refine ⟨rfl, ?_⟩
          try unfold tYes
          refine iteT ?_
          walk_at "go"
          refine new (show 2 ≤ sizeLine by decide) fun q1 H13 m13 hq13 s13 => ?_
          have hD13 := s13 _ _ hD9
          have kK : ∀ b xs, H13 b = some (.tup xs) → upd H13 D9 (.lst (qs.map V.ref ++ [.ref q1])) b = some (.tup xs) := fun b xs z => by
            rw [upd_ne (fun e => by rw [e, hD13] at z; cases z)]
            exact z
          have lq := aq.len
          rw [List.length_take] at lq
          refine ⟨_, hD13, by rw [List.length_map]; exact big_of (by omega), qs ++ [q1], by rw [upd_same, List.map_append]; rfl, ?_, fun b o z => ?_⟩
          · rw [List.take_add_one, hee]
            exact Al2.snoc (R := fun a e => upd H13 D9 (.lst (qs.map V.ref ++ [.ref q1])) a = some (.tup [.int e, .int 1])) (kK _ _ hq13) (aq.imp fun a' e' z => kK _ _ (s13 _ _ z))
          · rw [upd_ne (ne_of_none z nD9)]
            exact s13 _ _ (s12 _ _ z)
        rw [List.length_map, List.take_length] at aq
        have lq := aq.len
        have s812 : Same H8 H12 := s9.trans (s10.trans (s11.trans s12))
        refine w_cat (ys := .ref q0 :: qs.map V.ref) (s12 _ _ (s11 _ _ hG10)) hD9 rfl (by rw [List.length_cons, List.length_map]; exact Nat.le_trans (show _ ≤ 2 by omega) (by decide)) fun G H13 nG hG s13 => ?_
        have hG : H13 G = some (.lst ((q0 :: qs).map V.ref)) := hG
        have s813 : Same H8 H13 := s812.trans s13
        have ap : Al2 (fun a (p : Int × Int) => H13 a = some (.tup [.int p.1, .int p.2])) (q0 :: qs) (prs2 d xj.1) := by
          refine ⟨s13 _ _ (s12 _ _ (s11 _ _ (s10 _ _ hq9))), ?_⟩
          have : ∀ (qs : List Addr) (es : List Int), Al2 (fun a e => H12 a = some (.tup [.int e, .int 1])) qs es → Al2 (fun a (p : Int × Int) => H13 a = some (.tup [.int p.1, .int p.2])) qs (es.map fun e => (e, 1)) := by
            intro qs
            induction qs with
            | nil =>
              intro es h
              match es, h with
              | [], _ => trivial
            | cons q qs ih =>
              intro es h
              match es, h with
              | e :: es, h => exact ⟨s13 _ _ h.1, ih es h.2⟩
          exact this qs _ aq
        have w13 := w8.sm s813
        have kq13 := kq8.sm s813
        have nGF : G ≠ F := fun z => by
          obtain ⟨⟨kvs', os', gF', _⟩, _⟩ := id (w8.sm s812)
          rw [z, gF'] at nG
          cases nG
        have nGO : G ≠ O := fun z => by
          obtain ⟨⟨kvs', os', _, gO', _⟩, _⟩ := id (w8.sm s812)
          rw [z, gO'] at nG
          cases nG
        have napF : ∀ a' : Addr, ∀ ys, H13 a' = some (.tup ys) → a' ≠ F ∧ a' ≠ O := fun a' ys h => by
          obtain ⟨⟨kvs', os', gF', gO', _⟩, _⟩ := id w13
          refine ⟨fun z => ?_, fun z => ?_⟩
          · rw [z, gF'] at h
            cases h
          · rw [z, gO'] at h
            cases h
        clear hq9 m9 hG10 m10 s9 s10 s11 s12 s13 s812 hD9 aq zD9 nD9 hD11 n11 ht10 hta10 edv
        walk_at "go"
        refine over_l (SqL.of hG) ?_
        have ePj : (l.take (j + 1)).flatMap (exts d) = (l.take j).flatMap (exts d) ++ (prs2 d xj.1).map fun p => (p.1, xj.2 ++ [p.2]) := by
          rw [List.take_add_one, hxj, List.flatMap_append]
          simp [exts_prs]
        generalize hPj : (l.take j).flatMap (exts d) = Pj at w13 ne8 ePj
        have hta13 := s813 _ _ hta8
        refine for_list (K := K) (a := G) (xs := (q0 :: qs).map V.ref) (fun m σ H' => (∃ v10 v11 v12, σ = sgW t F O s0 e x (some (.int (i : Int))) (some (.ref D7)) (some (.ref a)) (some (.ref G)) v10 v11 v12) ∧ WI H H' F O (pre ++ l.map (mk3 i) ++ (accF (Pj ++ ((prs2 d xj.1).take m).map fun p => (p.1, xj.2 ++ [p.2]))).map (mk3 (i + 1))) ∧ (i = L → ∀ y ∈ Pj ++ ((prs2 d xj.1).take m).map (fun p => (p.1, xj.2 ++ [p.2])), y.1 ≠ e) ∧ Kq F O H13 H') ⟨⟨_, _, _, rfl⟩, by rw [List.take_zero, List.map_nil, List.append_nil]; exact w13, fun h => by rw [List.take_zero, List.map_nil, List.append_nil]; exact ne8 h, fun _ _ z _ _ => z⟩ (fun j σ H' _ ⟨_, _, _, kq⟩ => SqL.of (kq _ _ hG nGF nGO)) (fun m y σ H14 hy ⟨⟨v10'', v11'', v12'', eσ⟩, w14, ne14, kq14⟩ => ?_) (fun σ H14 ⟨⟨v10'', v11'', v12'', eσ⟩, w14, ne14, kq14⟩ => ?_)
        · subst eσ
          rw [List.getElem?_map] at hy
          obtain ⟨ap1, hap1, rfl⟩ := Option.map_eq_some_iff.mp hy
          obtain ⟨⟨o, nn⟩, hp, hpa⟩ := ap.at hap1
          have hpa : H13 ap1 = some (.tup [.int o, .int nn]) := hpa
          obtain ⟨nf1, nf2⟩ := napF _ _ hpa
          have hpa14 := kq14 _ _ hpa nf1 nf2
          refine ⟨ap1, _, rfl, SqT.of hpa14, rfl, _, _, rfl, _, _, rfl, rfl, ?_⟩
          have hme : (o, xj.2 ++ [nn]) ∈ exts d xj := by
            rw [exts_prs]
            exact List.mem_map.mpr ⟨(o, nn), List.mem_of_getElem? hp, rfl⟩
          have domo : Dom wr o := by
            obtain ⟨n', _, e'⟩ := ext_of hme
            injection e' with e' _
            rw [e']
            exact dom_dN gx.1 _
          obtain ⟨Pm, hPm⟩ : ∃ Pm, Pj ++ ((prs2 d xj.1).take m).map (fun p => (p.1, xj.2 ++ [p.2])) = Pm := ⟨_, rfl⟩
          have ePm : Pj ++ ((prs2 d xj.1).take (m + 1)).map (fun p => (p.1, xj.2 ++ [p.2])) = Pm ++ [(o, xj.2 ++ [nn])] := by
            rw [List.take_add_one, hp, ← hPm]
            simp
          rw [hPm] at w14 ne14
          have lPm : Pm.length ≤ 10 := by
            have h1 := flat_len d (l.take j)
            rw [hPj, List.length_take] at h1
            have h2 : (prs2 d xj.1).length ≤ 2 := by
              unfold prs2
              rw [List.length_cons, List.length_map]
              omega
            rw [← hPm, List.length_append, List.length_map, List.length_take]
            omega
          have hta14 : H14 a = some (.tup [.int (i : Int), .int xj.1]) := kq14 _ _ hta13 naF naO
          have ht14 : H14 t = some (.tup [.str r, .str wr, .str d]) := w14.2 _ _ ht
          obtain ⟨⟨kvs, os, gF, gO, its⟩, s14⟩ := id w14
          have lacc : (accF Pm).length ≤ 10 := by
            rw [hacc]
            show (if i < L then _ else _ : List It2).length ≤ 10
            split
            · have := adds_len (f := opL r wr (cs.getD i 0)) Pm []
              simp only [List.length_nil] at this
              omega
            · simp
          have lkv : kvs.length ≤ 1000 := by
            rw [its.len.1, List.length_append, List.length_append, List.length_map, List.length_map]
            omega
          obtain ⟨bk, hbk, hbk2⟩ : ∃ b, valV kvs (key3 i xj.1) = some (.ref b) ∧ H14 b = some (.tup (xj.2.map V.int)) := by
            refine its.some (it := mk3 i xj) (List.mem_append_left _ (List.mem_append_right _ (List.mem_map.mpr ⟨xj, List.mem_of_getElem? hxj, rfl⟩))) fun z hz e1 e2 => ?_
            rcases List.mem_append.mp hz with hz | hz
            · rcases List.mem_append.mp hz with hz | hz
              · have h1 := hpre z hz
                have h2 : z.1 = i := e1
                omega
              · obtain ⟨z', hz', rfl⟩ := List.mem_map.mp hz
                have e2 : z'.1 = xj.1 := e2
                rw [uniq_of nd hz' (List.mem_of_getElem? hxj) e2]
            · obtain ⟨z', hz', rfl⟩ := List.mem_map.mp hz
              have e1 : i + 1 = i := e1
              omega
          walk_at "go"
          refine w_mid (fun σ' H' => σ' = sgW t F O s0 e x (some (.int (i : Int))) (some (.ref D7)) (some (.ref a)) (some (.ref G)) (some (.int o)) (some (.int nn)) v12'' ∧ H' = H14 ∧ (i = L → o ≠ e)) ?_ ?_
          · walk_at "go"
            refine ⟨x, rfl, big, ?_⟩
            walk_at "go"
            rw [elx]
            by_cases hL : i = L
            · refine iteYs (by rw [hL]; simp) ?_
              walk_at "go"
              by_cases he : o = e
              · refine iteYs (by rw [he]; simp) ?_
                walk_at "go"
                refine dgetT gF (k := key3 i xj.1) hta14 hbk ?_
                walk_at "go"
                refine new (show 1 ≤ sizeLine by decide) fun q1 H15 m15 hq15 s15 => ?_
                refine w_catT (s15 _ _ hbk2) hq15 (by rw [List.length_map, gx.2.1]; exact Nat.le_trans (show _ ≤ 100 by show i + 1 ≤ 100; omega) (by decide)) fun pp H16 hp16 s16 => ?_
                refine qs_ (xj.2 ++ [nn]) pp H16 ?_ (by rw [List.map_append]; exact hp16) ((s14.trans s15).trans s16)
                have elay : lays r wr d s0 cs = l := by
                  rw [← hl, hL, ← ec, List.take_length]
                unfold wayF
                rw [elay, take_flat l hxj, hPj, exts_prs]
                have e3 : (prs2 d xj.1).map (fun p => (p.1, xj.2 ++ [p.2])) = ((prs2 d xj.1).take m).map (fun p => (p.1, xj.2 ++ [p.2])) ++ (o, xj.2 ++ [nn]) :: ((prs2 d xj.1).drop (m + 1)).map (fun p => (p.1, xj.2 ++ [p.2])) := by
                  obtain ⟨hm1, hm2⟩ := List.getElem?_eq_some_iff.mp hp
                  have : prs2 d xj.1 = (prs2 d xj.1).take m ++ (o, nn) :: (prs2 d xj.1).drop (m + 1) := by
                    rw [← hm2, List.getElem_cons_drop, List.take_append_drop]
                  conv => lhs; rw [this]
                  simp
                rw [e3, ← List.append_assoc, hPm, List.append_assoc, List.cons_append, find_pre (fun z hz => decide_eq_false (ne14 hL z hz)) (decide_eq_true he)]
                rfl
              · refine iteNo (decide_eq_false fun z => he (by injection z)) ?_
                exact ⟨rfl, rfl, fun _ => he⟩
            · refine iteNo (decide_eq_false fun z => hL (by injection z; omega)) ?_
              exact ⟨rfl, rfl, fun z => absurd z hL⟩
          · rintro σ' H15 ⟨rfl, rfl, ho⟩
            have neN : i = L → ∀ y ∈ Pm ++ [(o, xj.2 ++ [nn])], y.1 ≠ e := fun hL y hy => by
              rcases List.mem_append.mp hy with hy | hy
              · exact ne14 hL y hy
              · rw [List.mem_singleton.mp hy]
                exact ho hL
            walk_at "go"
            refine ⟨x, rfl, big, ?_⟩
            walk_at "go"
            rw [elx]
            by_cases hL : i < L
            · refine iteYs (decide_eq_true (by omega)) ?_
              walk_at "go"
              obtain ⟨c, hc⟩ : ∃ c, cs[i]? = some c := ⟨_, List.getElem?_eq_getElem (by omega)⟩
              have hcx : x.cps.toList[i]? = some c := hcs ▸ hc
              have sg := sign_of (lcs c (List.mem_of_getElem? hc))
              have e1 : ∀ P, accF P = P.foldl (fun acc y => addL acc (opL r wr c y)) [] := fun P => by
                rw [hacc]
                show (if i < L then _ else _ : List It2) = _
                rw [if_pos hL, List.getD_eq_getElem?_getD, hc]
                rfl
              have e2 : accF (Pm ++ [(o, xj.2 ++ [nn])]) = addL (accF Pm) (ltF r wr (one c) o, xj.2 ++ [nn]) := by
                rw [e1, e1, List.foldl_append]
                rfl
              refine ⟨x, _, c, rfl, rfl, big, atI_nat hcx, ?_⟩
              walk_at "go"
              refine ⟨t, r, wr, d, o, one c, rfl, ht14, kd, domo, sg, fun H16 s16 => ?_⟩
              walk_at "go"
              refine new (show 2 ≤ sizeLine by decide) fun lt H17 m17 hlt s17 => ?_
              have s1417 : Same H15 H17 := s16.trans s17
              have gF17 := s1417 _ _ gF
              have gO17 := s1417 _ _ gO
              have its17 : Its H17 kvs os _ := its.tups fun _ _ z => s1417 _ _ z
              have hlt' : H17 lt = some (.tup ((key3 (i + 1) (ltF r wr (one c) o)).map kV)) := hlt
              generalize hv : ltF r wr (one c) o = v at hlt hlt' e2
              walk_at "go"
              try unfold tDNotIn
              walk_at "go"
              cases hany : (accF Pm).any (fun y => decide (y.1 = v)) with
              | true =>
                obtain ⟨y', hy', ey'⟩ := List.any_eq_true.mp hany
                have ey' : y'.1 = v := of_decide_eq_true ey'
                obtain ⟨bb, hbb⟩ := its17.has (it := mk3 (i + 1) y') (List.mem_append_right _ (List.mem_map.mpr ⟨y', hy', rfl⟩))
                have hbb : valV kvs (key3 (i + 1) v) = some (.ref bb) := ey' ▸ hbb
                refine ⟨F, some (.ref bb), rfl, by rw [← hbb]; exact DGet.t gF17 hlt', ?_⟩
                refine ⟨_, rfl, iteNo rfl ?_⟩
                walk_at "go"
                refine ⟨⟨_, _, _, rfl⟩, ?_, by rw [ePm]; exact neN, kq14.sm s1417⟩
                rw [ePm, e2]
                unfold addL
                rw [if_pos hany]
                exact w14.sm s1417
              | false =>
                have hnone : valV kvs (key3 (i + 1) v) = none := its17.none fun z hz ⟨z1, z2⟩ => by
                  rcases List.mem_append.mp hz with hz | hz
                  · rcases List.mem_append.mp hz with hz | hz
                    · have := hpre z hz
                      omega
                    · obtain ⟨z', _, rfl⟩ := List.mem_map.mp hz
                      have z1 : i = i + 1 := z1
                      omega
                  · obtain ⟨z', hz', rfl⟩ := List.mem_map.mp hz
                    have : (accF Pm).any (fun y => decide (y.1 = v)) = true := List.any_eq_true.mpr ⟨z', hz', decide_eq_true z2⟩
                    rw [hany] at this
                    cases this
                refine ⟨F, none, rfl, by rw [← hnone]; exact DGet.t gF17 hlt', ?_⟩
                refine ⟨_, rfl, iteYs rfl ?_⟩
                walk_at "go"
                refine dgetT gF17 (k := key3 i xj.1) (s1417 _ _ hta14) hbk ?_
                walk_at "go"
                refine new (show 1 ≤ sizeLine by decide) fun q1 H18 m18 hq18 s18 => ?_
                refine w_catT (s18 _ _ (s1417 _ _ hbk2)) hq18 (by rw [List.length_map, gx.2.1]; exact Nat.le_trans (show _ ≤ 100 by show i + 1 ≤ 100; omega) (by decide)) fun pp H19 hp19 s19 => ?_
                have s1719 := s18.trans s19
                walk_at "go"
                refine dputT (s1719 _ _ gF17) (k := key3 (i + 1) v) (s1719 _ _ hlt') (big_of lkv) fun H20 hF20 e20 => ?_
                rw [put_new hnone] at hF20
                have gO20 : H20 O = some (.lst os) := (e20 O (Ne.symm nFO)).trans (s1719 _ _ gO17)
                walk_at "go"
                unfold tBM
                walk_at "go"
                refine ⟨.inl ⟨rfl, _, SqL.of gO20⟩, ?_⟩
                walk_at "go"
                refine ⟨O, os, .ref lt, rfl, rfl, gO20, big_of (by have := its.len; omega), ?_⟩
                walk_at "go"
                have tk : ∀ b xs, H19 b = some (.tup xs) → upd H20 O (.lst (os ++ [.ref lt])) b = some (.tup xs) := fun b xs z => by
                  rw [upd_ne (fun e => by
                    rw [e, s1719 _ _ gO17] at z
                    cases z), e20 b (fun e => by
                    rw [e, s1719 _ _ gF17] at z
                    cases z)]
                  exact z
                have ea : addL (accF Pm) (v, xj.2 ++ [nn]) = accF Pm ++ [(v, xj.2 ++ [nn])] := by
                  unfold addL
                  rw [hany]
                  rfl
                refine ⟨⟨_, _, _, rfl⟩, ⟨⟨_, _, (upd_ne nFO).trans hF20, upd_same, ?_⟩, fun b u z => ?_⟩, by rw [ePm]; exact neN, fun b u z n1 n2 => ?_⟩
                · rw [ePm, e2, ea, List.map_append, ← List.append_assoc]
                  exact Its.snoc (tk _ _ (by rw [List.map_append]; exact hp19)) (tk _ _ (s1719 _ _ hlt)) (its17.tups fun b xs z => tk _ _ (s1719 _ _ z))
                · rw [upd_ne (ne_of_none z nO), e20 b (ne_of_none z nF)]
                  exact s1719 _ _ (s1417 _ _ (s14 _ _ z))
                · rw [upd_ne n2, e20 b n1]
                  exact s1719 _ _ (s1417 _ _ (kq14 _ _ z n1 n2))
            · refine iteNo (decide_eq_false (by omega)) ?_
              walk_at "go"
              refine ⟨⟨_, _, _, rfl⟩, ?_, by rw [ePm]; exact neN, kq14⟩
              have e1 : ∀ P, accF P = [] := fun P => by
                rw [hacc]
                exact if_neg hL
              rw [e1] at w14 ⊢
              exact w14
        · subst eσ
          have el : ((q0 :: qs).map V.ref).length = (prs2 d xj.1).length := by
            rw [List.length_map]
            exact ap.len
          rw [el, List.take_length, ← ePj] at w14 ne14
          exact ⟨⟨_, _, _, _, _, rfl⟩, w14, ne14, fun b u z n1 n2 => kq14 _ _ (kq13 _ _ z n1 n2) n1 n2⟩
      · subst eσ
        have el : (las.map V.ref).length = l.length := by
          have := al.len
          rw [List.length_map] at this ⊢
          exact this
        rw [el, List.take_length] at w8 ne8
        have eL1 : LL (i + 1) = (accF (l.flatMap (exts d))).map (mk3 (i + 1)) := by
          rw [hacc]
          show _ = (if i < L then _ else _ : List It2).map (mk3 (i + 1))
          by_cases hL : i < L
          · obtain ⟨c, hc⟩ : ∃ c, cs[i]? = some c := ⟨_, List.getElem?_eq_getElem (by omega)⟩
            rw [if_pos hL, LLi (i + 1) hL, List.take_add_one, hc, Option.toList_some, lays_snoc, hl, List.getD_eq_getElem?_getD, hc]
            rfl
          · have : i = L := by omega
            rw [if_neg hL, this, LLe]
            rfl
        refine ⟨⟨_, _, _, _, _, _, _, rfl⟩, ⟨pre ++ l.map (mk3 i), by rw [eL1]; exact w8, fun it h => ?_, by rw [List.length_append, List.length_map]; omega⟩, fun h => ?_⟩
        · rcases List.mem_append.mp h with h | h
          · have := hpre it h
            omega
          · obtain ⟨y, _, rfl⟩ := List.mem_map.mp h
            exact Nat.lt_succ_self i
        · have hL : i = L := by omega
          have elay : lays r wr d s0 cs = l := by
            rw [← hl, hL, ← ec, List.take_length]
          unfold wayF
          rw [elay, List.find?_eq_none.mpr fun y hy => by simpa using ne8 hL y hy]
          rfl
    · rintro σ H6 ⟨⟨v6, v7, v8, v9, v10, v11, v12, rfl⟩, ⟨pre, w6, _, _⟩, hnn⟩
      walk_at "go"
      exact qn (hnn (Int.toNat_natCast _)) _ w6.2
end
end Law

set_option Elab.async false
set_option linter.all false
set_option maxRecDepth 100000
set_option maxHeartbeats 4000000
namespace Law
open PySem PySem.Spec PySem.Calls PyProof.Rows L2 KG LamX
local macro_rules | `(tactic| walk_at "1") => `(tactic| first
  | (with_reducible refine w_var rfl ?_) | (with_reducible refine w_c ?_) | (with_reducible refine w_seq ?_) | (with_reducible refine w_asg ?_) | (with_reducible refine w_gname ?_) | (with_reducible refine w_op ?_) | (with_reducible refine w_un ?_)
  | (with_reducible refine w_add ?_) | (with_reducible refine w_sub ?_) | ((with_reducible refine' w_mod ?mo ?_); (case mo => first | assumption | decide | omega)) | (with_reducible refine w_and ?_) | (with_reducible refine w_or ?_) | (with_reducible refine w_xor ?_)
  | (with_reducible refine w_gt ?_) | (with_reducible refine w_lt ?_) | (with_reducible refine w_ge ?_) | (with_reducible refine w_le ?_) | ((with_reducible refine' w_eq ?sc ?_); (case sc => rfl)) | ((with_reducible refine' w_ne ?sc ?_); (case sc => rfl))
  | (with_reducible refine w_ret ?_) | (with_reducible refine w_next ?_) | (with_reducible refine w_ifs ?_) | (with_reducible refine w_ifx ?_) | (with_reducible refine w_test ?_) | (with_reducible refine w_tB ?_) | (with_reducible refine w_bl ?_)
  | ((with_reducible refine' w_ixL ?ixh ?ixa ?_); (case ixh => first | exact SqL.of (by assumption)); (case ixa => first | rfl | skip)) | ((with_reducible refine' w_ixT ?ixh ?ixa ?_); (case ixh => first | exact SqT.of (by assumption)); (case ixa => first | rfl | skip))
  | ((with_reducible refine' w_fld ?_)) | ((with_reducible refine' fld ?fh ?fc ?fn ?fl ?_); (case fh => assumption); (case fc => assumption); (case fn => assumption); (case fl => rfl)) | (with_reducible refine w_sfld ?_)
  | (with_reducible refine Or.inl ⟨_, rfl, ?_⟩) | (with_reducible refine w_gsub ?_) | (with_reducible refine w_andV ?_) | (with_reducible refine w_orV ?_)
  | (with_reducible refine w_nil ?_) | (with_reducible refine w_cons ?_) | (with_reducible refine w_tup ?_) | (with_reducible refine w_lst ?_) | (with_reducible refine w_and2 ?_) | (with_reducible refine w_or2 ?_) | (with_reducible refine w_not ?_) | (with_reducible refine w_cb ?_) | (with_reducible refine w_call ?_) | (with_reducible refine w_par ?_) | (with_reducible refine w_pnil ?_) | (with_reducible refine w_pcons ?_) | (with_reducible refine w_dput ?_) | (with_reducible refine w_dget ?_) | (with_reducible refine w_for ?_) | (with_reducible refine w_itup ?_) | (with_reducible refine w_ilist ?_) | (with_reducible refine w_irng ?_) | (with_reducible refine w_meth ?_) | (with_reducible refine w_make ?_) | (with_reducible refine w_makeK ?_) | (with_reducible refine w_methK ?_) | ((with_reducible refine' mth ?mh ?ml ?_); (case mh => assumption); (case ml => rfl)) | (with_reducible refine w_drop ?_))
local macro_rules | `(tactic| walk_at "go") => `(tactic| ((repeat (walk_at "1")); try dsimp only))
local macro_rules | `(tactic| walk_at "1") => `(tactic| first
  | (with_reducible refine w_notV ?_) | (with_reducible refine w_callK ?_) | (with_reducible refine w_lc ?_) | (with_reducible refine w_chain ?_) | (with_reducible refine w_neg ?_) | ((with_reducible refine' w_shr ?mo ?_); (case mo => first | assumption | omega)))
/-- letters, at most twelve -/
def LetS (x : Str) : Prop := x.cps.size ≤ 12 ∧ ∀ c ∈ x.cps.toList, c ∈ ("01r" : Str).cps.toList
theorem LetS.lets {x : Str} (h : LetS x) : Lets x := ⟨Nat.le_trans h.1 (by decide), h.2⟩
def spLetsS : Sp := fun vs H Q _ => ∃ (p l : Addr) (cells : List Int) (n : Nat) (m : Int), vs = [.ref p, .int m] ∧ PenC n p l cells H ∧ n + 60 ≤ 100000 ∧ 0 ≤ m ∧ m ≤ 12 ∧ ∀ (x : Str) H', LetS x → PenC (n + 45) p l cells H' → Kp p H H' → Q (.str x) H'
theorem cat_list (x y : Str) : (x ++ y).cps.toList = x.cps.toList ++ y.cps.toList := by
  show (x.cps ++ y.cps).toList = _
  rw [Array.toList_append]
theorem cat_size (x y : Str) : (x ++ y).cps.size = x.cps.size + y.cps.size := by
  show (x.cps ++ y.cps).size = _
  rw [Array.size_append]
theorem cat_lets {x y : Str} {n m : Nat} (hx : x.cps.size ≤ n ∧ ∀ c ∈ x.cps.toList, c ∈ ("01r" : Str).cps.toList) (hy : y.cps.size ≤ m ∧ ∀ c ∈ y.cps.toList, c ∈ ("01r" : Str).cps.toList) : (x ++ y).cps.size ≤ n + m ∧ ∀ c ∈ (x ++ y).cps.toList, c ∈ ("01r" : Str).cps.toList := by
  refine ⟨by rw [cat_size]; exact Nat.add_le_add hx.1 hy.1, fun c hc => ?_⟩
  rw [cat_list] at hc
  rcases List.mem_append.mp hc with h | h
  · exact hx.2 c h
  · exact hy.2 c h
section
variable {P : Program} {w : World} {K : PySem.W.Frag} {mg : Str → Option Value} {base : Heap}
theorem ok_letters12 (D : DefAt K mg "_law_letters" s__law_letters ["_law_pen_here", "_law_most"]) (B : B1 mg) (c_law_draw : Cal P w K mg base 1 "_law_draw" spDraw) : Cal P w K mg base 2 "_law_letters" spLetsS := by
  refine D.cal (k := 1) sc__law_letters (fun vs H Q E h => ?_) (fun f cdv A outer s H vs Q E rm gd h => ?_)
  · obtain ⟨p, l, cells, n, m, rfl, _⟩ := h
    rfl
  · obtain ⟨p, l, cells, n, m, rfl, pen, hn, m0, m1, q⟩ := h
    refine ⟨_, (pss_cons (ps_set (i := 2) sc__law_letters.nd rfl (Or.inl rfl) (pe_ix ix_list (pe_lst (pa_cons (pc c_law_draw rm (by decide) gd rfl (pa_cons (pv 0) (pa_cons (pe_op op_add (pv 1) pe_int) pa_nil))) (pa_cons (pc c_law_draw rm (by decide) gd rfl (pa_cons (pv 0) (pa_cons pe_int pa_nil))) (pa_cons (pc c_law_draw rm (by decide) gd rfl (pa_cons (pv 0) (pa_cons pe_int pa_nil))) pa_nil)))) (pc c_law_draw rm (by decide) gd rfl (pa_cons (pv 0) (pa_cons pe_int pa_nil))) (fun _ _ => rfl)))
    (pss_cons (ps_set (i := 3) sc__law_letters.nd rfl (Or.inr rfl) (pe_ix ix_list (pe_lst (pa_cons pe_str (pa_cons pe_str (pa_cons pe_str (pa_cons pe_str (pa_cons pe_str (pa_cons pe_str pa_nil))))))) (pc c_law_draw rm (by decide) gd rfl (pa_cons (pv 0) (pa_cons pe_int pa_nil))) (fun _ _ => rfl)))
    (pss_one (ps_ret (pe_join pe_str (pe_lc (own := [("_law_turn", 4)]) (g := (gName 4)) (by rfl) sc__law_letters.nd (pi_range1 rfl B.g_range (pa_cons (pv 2) pa_nil)) (blkOk_by (own := [("_law_turn", 4)]) (N := ["_law_pen_here", "_law_most", "_law_size", "_law_signs", "_law_turn"]) (sc := defScope s__law_letters) (by decide +kernel)) (fun _ _ _ _ _ => (pg_name (i := 4) sc__law_letters.nd rfl (Or.inl rfl))) (fun _ _ _ _ _ => pts_nil) (fun _ _ _ _ _ => (pe_ix ix_str (pv 3) (pc c_law_draw rm (by decide) gd rfl (pa_cons (pv 0) (pa_cons (pe_callB call_len_str (by rfl) B.g_len (by decide +kernel) (pa_cons (pv 3) pa_nil)) pa_nil))) (fun _ _ => rfl))))))))), ?_⟩
    walk_at "go"
    refine ⟨p, l, cells, n, m + 1, rfl, pen, by omega, by omega, by omega, fun d1 H1 a0 a1 pen1 k1 => ?_⟩
    walk_at "go"
    refine ⟨p, l, cells, n + 1, 5, rfl, pen1, by omega, by decide, by decide, fun d2 H2 b0 b1 pen2 k2 => ?_⟩
    walk_at "go"
    refine ⟨p, l, cells, n + 2, 9, rfl, pen2, by omega, by decide, by decide, fun d3 H3 c0 c1 pen3 k3 => ?_⟩
    walk_at "go"
    refine new (show 3 ≤ sizeLine by decide) fun t4 H4 n4 h4 s4 => ?_
    walk_at "go"
    have pen4 := pen3.same s4
    refine ⟨p, l, cells, n + 3, 3, rfl, pen4, by omega, by decide, by decide, fun d5 H5 e0 e1 pen5 k5 => ?_⟩
    obtain ⟨t4p, t4l⟩ := pen3.ne n4
    have h5 := k5 _ _ h4 t4p
    obtain ⟨sz, z0, z1, ez⟩ : ∃ sz : Int, 0 ≤ sz ∧ sz ≤ 12 ∧ atI [V.int d1, V.int d2, V.int d3] d5 = some (.int sz) := by
      have h3 : d5 = 0 ∨ d5 = 1 ∨ d5 = 2 := by omega
      rcases h3 with rfl | rfl | rfl
      · exact ⟨d1, a0, by omega, rfl⟩
      · exact ⟨d2, b0, by omega, rfl⟩
      · exact ⟨d3, c0, by omega, rfl⟩
    refine w_ixL (SqL.of h5) ez ?_
    walk_at "go"
    refine new (show 6 ≤ sizeLine by decide) fun t6 H6 n6 h6 s6 => ?_
    walk_at "go"
    have pen6 := pen5.same s6
    refine ⟨p, l, cells, n + 4, 6, rfl, pen6, by omega, by decide, by decide, fun d7 H7 f0 f1 pen7 k7 => ?_⟩
    obtain ⟨t6p, t6l⟩ := pen5.ne n6
    obtain ⟨z, hz, ezz⟩ := at_strs (l := SG) f0 f1
    obtain ⟨zl, zh, zc⟩ := sg_ok z hz
    refine w_ixL (SqL.of (k7 _ _ h6 t6p)) ezz ?_
    walk_at "go"
    have kA : Kp p H H7 := fun b o hb nb => k7 _ _ (s6 _ _ (k5 _ _ (s4 _ _ (k3 _ _ (k2 _ _ (k1 _ _ hb nb) nb) nb)) nb)) nb
    refine w_tM1 ?_
    walk_at "go"
    refine ⟨⟨_, rfl⟩, ?_⟩
    walk_at "go"
    refine over_r (by omega) (by omega) ?_
    intro D nD
    have zD : Same H7 (upd H7 D (.lst [])) := fun b u e => by
      rw [upd_ne (ne_of_none e nD)]
      exact e
    obtain ⟨Dp, Dl⟩ := pen7.ne nD
    obtain ⟨szn, rfl⟩ := Int.eq_ofNat_of_zero_le z0
    have ns : ((szn : Nat) : Int).toNat = szn := Int.toNat_natCast szn
    refine lc_range (lo := 0) (n := ((szn : Nat) : Int).toNat) (fun i H' => ∃ cs : List Nat, H' D = some (.lst ((cs.map one).map V.str)) ∧ cs.length = i ∧ (∀ c ∈ cs, c ∈ ("01r" : Str).cps.toList) ∧ PenC (n + 5 + i) p l cells H' ∧ Kp p H H') ⟨[], upd_same, rfl, fun c hc => by simp at hc, pen7.same zD, fun b o hb nb => zD _ _ (kA b o hb nb)⟩ (fun i H8 hi ⟨cs, hD, hl, hc, pen8, k8⟩ => ?_) (fun H8 ⟨cs, hD, hl, hc, pen8, k8⟩ => ?_)
    · rw [ns] at hi
      walk_at "go"
      refine ⟨rfl, ?_⟩
      try unfold tYes
      refine iteT ?_
      walk_at "go"
      refine ⟨z, rfl, Nat.le_trans (show z.cps.size ≤ 4 by rw [← Array.length_toList]; exact zh) (by decide), ?_⟩
      walk_at "go"
      have hzl : (z.length : Int) = (z.cps.toList.length : Int) := by
        show ((z.cps.size : Nat) : Int) = _
        rw [Array.length_toList]
      refine ⟨p, l, cells, n + 5 + i, _, rfl, pen8, by omega, by omega, by omega, fun d9 H9 g0 g1 pen9 k9 => ?_⟩
      obtain ⟨j, rfl⟩ := Int.eq_ofNat_of_zero_le g0
      obtain ⟨c, ec⟩ : ∃ c, z.cps.toList[j]? = some c := ⟨_, List.getElem?_eq_getElem (by omega)⟩
      refine ⟨z, _, c, rfl, rfl, Nat.le_trans (show z.cps.size ≤ 4 by rw [← Array.length_toList]; exact zh) (by decide), atI_nat ec, ?_⟩
      have hD9 := k9 _ _ hD Dp
      refine ⟨_, hD9, big_of (by rw [List.length_map, List.length_map]; omega), cs ++ [c], ?_, by rw [List.length_append, hl]; rfl, fun x hx => ?_, pen9.put Dp Dl, fun b o hb nb => ?_⟩
      · rw [upd_same, List.map_append, List.map_append]
        rfl
      · rcases List.mem_append.mp hx with hx | hx
        · exact hc x hx
        · rw [List.mem_singleton.mp hx]
          exact zc c (List.mem_of_getElem? ec)
      · have nbD : b ≠ D := fun e => by
          rw [e] at hb
          have := kA _ _ hb (fun y => Dp y)
          rw [nD] at this
          cases this
        rw [upd_ne nbD]
        exact k9 _ _ (k8 _ _ hb nb) nb
    · walk_at "go"
      refine ⟨Str.empty, D, cs.map one, rfl, rfl, .inl (SqL.of hD), ?_, ?_⟩
      · rw [sum_ones]
        have : (Str.empty : Str).length = 0 := rfl
        rw [this]
        omega
      · have ex : (Txt.join Str.empty (cs.map one)).cps.toList = cs := by rw [TL.join_eq, join_ones]
        refine q _ H8 ⟨?_, fun c h => hc c (ex ▸ h)⟩ (pen8.mono (by omega)) k8
        rw [← Array.length_toList, ex]
        omega
end
theorem KindAt.kpD {C k D : Addr} {xs : List V} {H H' : Hp} {r w d : Str} (h : KindAt C H k r w d) (hD : H D = some (.lst xs)) (c : Kp D H H') : KindAt C H' k r w d := by
  obtain ⟨dx, st, a, b⟩ := h
  refine ⟨dx, st, c _ _ a fun z => ?_, c _ _ b fun z => ?_⟩
  · rw [z, hD] at a
    cases a
  · rw [z, hD] at b
    cases b
theorem RowsAt.kpD {t D : Addr} {xs : List V} {H H' : Hp} {F : List (List Int)} (h : RowsAt H t F) (hD : H D = some (.lst xs)) (c : Kp D H H') : RowsAt H' t F := by
  obtain ⟨ts, g1, g2, g3⟩ := h
  refine ⟨ts, c _ _ g1 fun z => ?_, g2, fun j a r e1 e2 => c _ _ (g3 j a r e1 e2) fun z => ?_⟩
  · rw [z, hD] at g1
    cases g1
  · have := g3 j a r e1 e2
    rw [z, hD] at this
    cases this
theorem EffAt.kpD {C CE e k D : Addr} {xs : List V} {H H' : Hp} {r w d : Str} {F : List (List Int)} (h : EffAt C CE H e k r w d F) (hD : H D = some (.lst xs)) (c : Kp D H H') : EffAt C CE H' e k r w d F := by
  obtain ⟨dx, t, h1, h2, h3⟩ := h
  refine ⟨dx, t, c _ _ h1 fun z => ?_, h2.kpD hD c, h3.kpD hD c⟩
  rw [z, hD] at h1
  cases h1
theorem tup_kpD {t D : Addr} {xs ys : List V} {H H' : Hp} (h : H t = some (.tup ys)) (hD : H D = some (.lst xs)) (c : Kp D H H') : H' t = some (.tup ys) := c _ _ h fun z => by
  rw [z, hD] at h
  cases h
theorem PenC.atp {n : Nat} {p l : Addr} {cells : List Int} {H : Hp} (h : PenC n p l cells H) : ∃ (i j : Int), H p = some (.lst [.ref l, .int i, .int j]) := by
  obtain ⟨_, _, a, r, _, z⟩ := h
  exact ⟨_, _, z⟩
theorem de_fact : ∀ d ∈ DV, ∀ m ∈ S4, deF d m ∈ m :: dvI d m ∧ ∀ x ∈ dvI d m, deF d x ∈ m :: dvI d m := by decide +kernel
theorem dN_clo {w d : Str} {m : Int} (hd : d ∈ DV) (dm : Dom w m) : ∀ n, dN d n m = m ∨ dN d n m ∈ dvI d m
  | 0 => .inl rfl
  | n + 1 => by
    have m4 : m ∈ S4 := by
      rw [s4_mem]
      have := dm.st
      unfold St4 at this
      omega
    obtain ⟨f1, f2⟩ := de_fact d hd m m4
    show deF d (dN d n m) = m ∨ deF d (dN d n m) ∈ dvI d m
    rcases dN_clo hd dm n with h | h
    · rw [h]
      exact List.mem_cons.mp f1
    · exact List.mem_cons.mp (f2 _ h)
theorem dom4 {w : Str} {m : Int} (dm : Dom w m) : 0 ≤ m ∧ m < 4 := by
  have := dm.st
  unfold St4 at this
  omega
theorem let_row {r w : Str} {c : Nat} {m : Int} (dm : Dom w m) : (letR r w (one c)).getD m.toNat [] = [ltF r w (one c) m] := by
  unfold letR
  rw [row_at _ (dom_stN.mp dm)]
  unfold ltF
  split
  · rfl
  · split <;> rfl
theorem bet_row {w d : Str} {m : Int} (dm : Dom w m) : (betw false w d).getD m.toNat [] = clo d m := by
  unfold betw
  rw [row_at _ (dom_stN.mp dm)]
  rfl
theorem betq_row {w d : Str} {m : Int} (dm : Dom w m) : (betw true w d).getD m.toNat [] = [m] := by
  unfold betw
  rw [row_at _ (dom_stN.mp dm)]
  rfl
theorem split_last {l : List Int} {n : Nat} (h : l.length = n + 2) : ∃ ms a b, l = ms ++ [a, b] ∧ ms.length = n := by
  have h2 : l.drop n = [l[n], l[n + 1]] := by
    rw [List.drop_eq_getElem_cons (show n < l.length by omega), List.drop_eq_getElem_cons (show n + 1 < l.length by omega), List.drop_eq_nil_of_le (show l.length ≤ n + 1 + 1 by omega)]
  exact ⟨l.take n, l[n], l[n + 1], (List.take_append_drop n l).symm.trans (congrArg _ h2), by rw [List.length_take]; omega⟩
theorem led_snoc {r w d : Str} {s a b : Int} {cs : List Nat} {c : Nat} {ms : List Int} (h : ms.length = cs.length) : ledF r w d s (cs ++ [c]) (ms ++ [a, b]) = dN d b.toNat (ltF r w (one c) (ledF r w d s cs (ms ++ [a]))) := by
  unfold ledF
  have e1 : (ms ++ [a, b]).getD (cs ++ [c]).length 0 = b := by
    rw [List.getD_eq_getElem?_getD, List.length_append, List.length_singleton, ← h, List.getElem?_append_right (by omega)]
    simp
  have e2 : (ms ++ [a]).getD cs.length 0 = a := by
    rw [List.getD_eq_getElem?_getD, ← h, List.getElem?_append_right (by omega)]
    simp
  have e3 : (cs ++ [c]).zip (ms ++ [a, b]) = cs.zip ms ++ [(c, a)] := by
    rw [List.zip_append h.symm]
    rfl
  have e4 : cs.zip (ms ++ [a]) = cs.zip ms := zip_long cs ms [a] (by omega)
  rw [e1, e2, e3, e4]
  unfold ledP
  rw [List.foldl_append]
  rfl
/-- a bit that is led comes to an end that the effect tells -/
theorem led_row {r w d : Str} {s : Int} {cs : List Nat} (kd : Kd r w d) (dm : Dom w s) : ∀ ns : List Int, ns.length = cs.length + 1 → Dom w (ledF r w d s cs ns) ∧ ledF r w d s cs ns ∈ (ofR false r w d cs).getD s.toNat [] := by
  refine snoc_ind (p := fun cs => ∀ ns : List Int, ns.length = cs.length + 1 → Dom w (ledF r w d s cs ns) ∧ ledF r w d s cs ns ∈ (ofR false r w d cs).getD s.toNat []) (fun ns hn => ?_) (fun cs c ih ns hn => ?_) cs
  · refine ⟨dom_dN dm _, ?_⟩
    show dN d _ s ∈ (betw false w d).getD s.toNat []
    rw [bet_row dm, clo_mem dm kd.2.2]
    exact dN_clo kd.2.2 dm _
  · rw [List.length_append, List.length_singleton] at hn
    obtain ⟨ms, a, b, rfl, hm⟩ := split_last hn
    rw [led_snoc hm]
    obtain ⟨d1, h1⟩ := ih (ms ++ [a]) (by rw [List.length_append, hm]; rfl)
    generalize ledF r w d s cs (ms ++ [a]) = m0 at d1 h1
    have d2 : Dom w (ltF r w (one c) m0) := dom_lt d1 kd.2.1
    refine ⟨dom_dN d2 _, ?_⟩
    rw [ofR_snoc]
    unfold stepR
    rw [join_mem]
    refine ⟨dom4 (dom_dN d2 _), ltF r w (one c) m0, ?_, ?_⟩
    · rw [join_mem]
      exact ⟨dom4 d2, m0, h1, by rw [let_row d1]; simp⟩
    · rw [bet_row d2, clo_mem d2 kd.2.2]
      exact dN_clo kd.2.2 d2 _
theorem one_pick {y : Int} {l : List Int} (h : l.Pairwise (· < ·)) (m : ∀ k, k ∈ l ↔ k = y) : l = [y] := asc_uniq h (by simp) fun k => by rw [m k]; simp
/-- the quiet one's only end -/
theorem quiet_row {r w d : Str} {s : Int} {cs : List Nat} (kd : Kd r w d) (dm : Dom w s) : Dom w (ledF r w d s cs (List.replicate (cs.length + 1) 0)) ∧ (ofR true r w d cs).getD s.toNat [] = [ledF r w d s cs (List.replicate (cs.length + 1) 0)] := by
  refine snoc_ind (p := fun cs => Dom w (ledF r w d s cs (List.replicate (cs.length + 1) 0)) ∧ (ofR true r w d cs).getD s.toNat [] = [ledF r w d s cs (List.replicate (cs.length + 1) 0)]) ⟨dm, ?_⟩ (fun cs c ih => ?_) cs
  · show (betw true w d).getD s.toNat [] = [s]
    exact betq_row dm
  · obtain ⟨d1, h1⟩ := ih
    have e : List.replicate ((cs ++ [c]).length + 1) (0 : Int) = List.replicate cs.length 0 ++ [0, 0] := by
      rw [List.length_append, List.length_singleton, List.replicate_succ', List.replicate_succ', List.append_assoc]
      rfl
    have e2 : List.replicate (cs.length + 1) (0 : Int) = List.replicate cs.length 0 ++ [0] := List.replicate_succ'
    rw [e, led_snoc (List.length_replicate ..), ← e2]
    generalize ledF r w d s cs (List.replicate (cs.length + 1) 0) = m0 at d1 h1
    have d2 : Dom w (ltF r w (one c) m0) := dom_lt d1 kd.2.1
    refine ⟨d2, ?_⟩
    show _ = [ltF r w (one c) m0]
    rw [ofR_snoc]
    unfold stepR
    refine one_pick ?_ fun k => ?_
    · rw [join_getD]
      exact pick_asc _
    · rw [join_mem]
      constructor
      · rintro ⟨_, m, hm, hk⟩
        obtain ⟨_, m1, hm1, hmm⟩ := join_mem.mp hm
        rw [h1, List.mem_singleton] at hm1
        subst hm1
        rw [let_row d1, List.mem_singleton] at hmm
        subst hmm
        rw [betq_row d2, List.mem_singleton] at hk
        exact hk
      · rintro rfl
        refine ⟨dom4 d2, ltF r w (one c) m0, ?_, by rw [betq_row d2]; simp⟩
        rw [join_mem]
        exact ⟨dom4 d2, m0, by rw [h1]; simp, by rw [let_row d1]; simp⟩
theorem BitK.kpD {C KB k a D : Addr} {xs : List V} {H H' : Hp} {r w d : Str} {s : Int} (h : BitK C KB H a k r w d s) (hD : H D = some (.lst xs)) (c : Kp D H H') : BitK C KB H' a k r w d s := by
  obtain ⟨dx, h1, h2, h3⟩ := h
  refine ⟨dx, c _ _ h1 fun z => ?_, h2.kpD hD c, h3⟩
  rw [z, hD] at h1
  cases h1
theorem Kp.refl {p : Addr} {H : Hp} : Kp p H H := fun _ _ h _ => h
theorem Kp.sm {p : Addr} {H H1 H2 : Hp} (k : Kp p H H1) (s : Same H1 H2) : Kp p H H2 := fun b o h n => s b o (k b o h n)
theorem kpS {p : Addr} {H H1 : Hp} (s : Same H H1) : Kp p H H1 := fun b o h _ => s b o h
/-- what leads a fresh one leaves the rest as it was -/
theorem Kp.lead {p a : Addr} {H H0 H1 H2 : Hp} (k : Kp p H H0) (na : H0 a = none) (k1 : Kp p H0 H1) (k2 : Kp a H1 H2) : Kp p H H2 := fun b o h n => by
  have h0 := k b o h n
  exact k2 b o (k1 b o h0 n) (ne_of_none h0 na)
theorem PenC.lead {n : Nat} {p l a : Addr} {cells : List Int} {H H1 : Hp} (h : PenC n p l cells H) (n1 : a ≠ p) (n2 : a ≠ l) (k : Kp a H H1) : PenC n p l cells H1 := by
  obtain ⟨a0, b, c, d, e, f⟩ := h
  exact ⟨a0, k _ _ b (Ne.symm n2), c, d, e, k _ _ f (Ne.symm n1)⟩
theorem sh_one (m : Int) : SeqAt.shaped (.tuple [.int m]) = true := by rfl
theorem eqv_one (m : Int) : PyData.eqv (.tuple [.int m]) (.tuple [.int m]) = true := by
  simp [PyData.eqv, PyData.eqvAll]
theorem EffAt.row {C CE e k : Addr} {H : Hp} {r w d : Str} {F : List (List Int)} (h : EffAt C CE H e k r w d F) : ∃ dx fs, H e = some (.ins CE dx fs) := by
  obtain ⟨dx, _, h1, _⟩ := h
  exact ⟨dx, _, h1⟩
theorem ofR_rows {q : Bool} {r w d : Str} (kd : Kd r w d) {cs : List Nat} (hc : ∀ c ∈ cs, c ∈ ("01r" : Str).cps.toList) : Rw (stN w).length (ofR q r w d cs) := ofR_rw kd cs hc _ (betw_rw kd.2.1 kd.2.2)
theorem row_ex {n i : Nat} {F : List (List Int)} (h : Rw n F) (hi : i < n) : ∃ row, F[i]? = some row ∧ F.getD ((i : Int)).toNat [] = row := by
  have : i < F.length := by rw [h.len]; exact hi
  refine ⟨F[i], List.getElem?_eq_getElem this, ?_⟩
  rw [Int.toNat_natCast, List.getD_eq_getElem?_getD, List.getElem?_eq_getElem this]
  rfl
theorem inV_ints (k : Int) : ∀ l : List Int, inV (.int k) (l.map V.int) = l.contains k
  | [] => rfl
  | x :: l => by
    have ih := inV_ints k l
    unfold inV at ih ⊢
    rw [List.map_cons, List.any_cons, ih, List.contains_cons]
    congr 1
    show decide (x = k) = (k == x)
    by_cases h : x = k
    · subst h
      simp
    · rw [decide_eq_false h]
      exact (beq_eq_false_iff_ne.mpr fun z => h z.symm).symm
theorem flat_ints : ∀ l : List Int, (l.map V.int).all flatV = true
  | [] => rfl
  | _ :: l => flat_ints l
def spKR : Sp := fun vs H Q _ => ∃ (p l : Addr) (cells : List Int) (n : Nat), vs = [.ref p] ∧ PenC n p l cells H ∧ n + 300 ≤ 100000 ∧ ∀ H', PenC (n + 300) p l cells H' → Q (.bl true) H'
section
variable {P : Program} {w : World} {K : PySem.W.Frag} {mg : Str → Option Value} {base : Heap} {C CE KB aW aI : Addr} {mc mcE : Value}
theorem ok_kr (D : DefAt K mg "_law_kind_right" s__law_kind_right ["_law_pen_here"]) (T : KT K w mg C aW aI mc) (TE : ET K mg CE) (TB : KBT K mg KB) (B : B1 mg) (nfE : PySem.W.notFirst K CE (.ref CE) = true) (isG : PySem.W.specialIn K (.builtin "object.__class__") "__get__" = some (some (.builtin "getset_descriptor.__get__"))) (isT : PySem.W.takesIn K (.builtin "object.__class__") = some true)
    {fT fOf fEC fMU fEE pOf : Addr} {fdI fdOf fdEC fdMU fdEE : FuncData} {dO : List Value}
    (c_law_draw : Cal P w K mg base 1 "_law_draw" spDraw) (c_law_words : Cal P w K mg base 2 "_law_words" spWords) (c_law_letters : Cal P w K mg base 2 "_law_letters" spLetsS) (c_law_states : Cal P w K mg base 1 "_law_states" spStates)
    (c_law_set_up : Cal P w K mg base 7 "_law_set_up" (spSet C KB)) (c_law_led : Cal P w K mg base 6 "_law_led" (spLed C KB K)) (c_law_way : Cal P w K mg base 3 "_law_way" spWay)
    (MK : Mk K C fT) (FIN : Gd P w K mg base CX0 1 fT fdI ["self", "reading", "writing", "device"] (spInit C)) (bIN : Binds K fdI ["self", "reading", "writing", "device"] [])
    (CR : ClX.CRead K CE mcE) (CM : ClX.CMet K CE mcE "of" pOf fOf) (FOF : Gd P w K mg base CX0 4 fOf fdOf ["cls", "kind", "letters", "quiet"] (spOf C CE)) (kbM : KBn K fdOf ["cls", "kind", "letters", "quiet"] 3 ["quiet"] (fun us ws => us ++ ws) (fun us ws => us ++ ws)) (bO : Binds K fdOf ["cls", "kind", "letters", "quiet"] dO) (vO : Vals [.bl false] dO)
    (eC : PySem.W.findIn K (.ref CE) "__call__" = some (some (.ref fEC))) (eF : PySem.W.isFn K (.ref fEC) = true) (eN : PySem.W.fnIn K fEC = true) (FEC : Gd P w K mg base CX0 1 fEC fdEC ["self", "state"] (spECall C CE)) (bEC : Binds K fdEC ["self", "state"] [])
    (hcE : PySem.W.selfFirst K CE = true) (muI : PySem.W.findIn K (.ref CE) "__mul__" = some (some (.ref fMU))) (muF : PySem.W.isFn K (.ref fMU) = true) (FMU : Gd P w K mg base CX0 4 fMU fdMU ["self", "other"] (spMul C CE)) (bMU : Binds K fdMU ["self", "other"] [])
    (FEE : Gd P w K mg base CX0 3 fEE fdEE ["self", "other"] (spEE C CE)) (bEE : Binds K fdEE ["self", "other"] []) (eeI : PySem.W.findIn K (.ref CE) "__eq__" = some (some (.ref fEE))) (eeF : PySem.W.isFn K (.ref fEE) = true) :
    Cal P w K mg base 9 "_law_kind_right" spKR := by
  refine D.cal (k := 8) sc__law_kind_right (fun vs H Q E h => ?_) (fun f cdv A outer s00 H vs Q E rm gd h => ?_)
  · obtain ⟨p, l, cells, n, rfl, _⟩ := h
    rfl
  · obtain ⟨p, l, cells, n, rfl, pen, hn, q⟩ := h
    have clE := TE.cl
    have nK := TE.nK
    refine ⟨_, (pss_cons (ps_set (i := 1) sc__law_kind_right.nd rfl (Or.inl rfl) (pc c_law_words rm (by decide) gd rfl (pa_cons (pv 0) pa_nil)))
    (pss_cons (ps_set (i := 2) sc__law_kind_right.nd rfl (Or.inl rfl) (pe_gmake MK FIN (rm.mono (by decide)) gd rfl T.g_Kind bIN .nil pass0 (pa_cons (pe_ix ix_tup (pv 1) pe_int (fun _ _ => rfl)) (pa_cons (pe_ix ix_tup (pv 1) pe_int (fun _ _ => rfl)) (pa_cons (pe_ix ix_tup (pv 1) pe_int (fun _ _ => rfl)) pa_nil)))))
    (pss_cons (ps_set (i := 3) sc__law_kind_right.nd rfl (Or.inl rfl) (pc c_law_letters rm (by decide) gd rfl (pa_cons (pv 0) (pa_cons pe_int pa_nil))))
    (pss_cons (ps_par (i := 4) (j := 5) rfl sc__law_kind_right.nd rfl rfl (by decide) rfl rfl (pa_cons (pe_gcmD (pe_glob (v := .ref CE) rfl TE.g_Effect rfl) CR CM FOF (rm.mono (by decide)) gd bO vO pass0 (pa_cons (pv 2) (pa_cons (pv 3) pa_nil))) (pa_cons (pe_gcmM (pe_glob (v := .ref CE) rfl TE.g_Effect rfl) CR CM FOF (rm.mono (by decide)) gd kbM pass0 (pa_cons (pv 2) (pa_cons (pv 3) pa_nil)) (pk_cons pe_bl pk_nil)) pa_nil)) (by rfl))
    (pss_cons (ps_for PassesOwn.never rfl (pi_tup (pc c_law_states rm (by decide) gd rfl (pa_cons (pv 1) pa_nil))) (pg_name (i := 6) sc__law_kind_right.nd rfl (Or.inl rfl))
      (pss_cons (ps_set (i := 7) sc__law_kind_right.nd rfl (Or.inl rfl) (pc c_law_set_up rm (by decide) gd rfl (pa_cons (pv 2) (pa_cons (pv 6) pa_nil))))
      (pss_mid (ps_if (pt_cmpR op_notN (pv 7) pe_non (nomark _))
        (pss_cons (ps_setLc (i := 8) (own := [("_law_turn", 9)]) (g := (gName 9)) (by rfl) sc__law_kind_right.nd rfl rfl (sw_true rfl rfl rfl (by decide +kernel)) (pi_range1 rfl B.g_range (pa_cons (pe_op op_add (pe_callB call_len_str (by rfl) B.g_len (by decide +kernel) (pa_cons (pv 3) pa_nil)) pe_int) pa_nil)) (blkOk_by (own := [("_law_turn", 9)]) (N := ["_law_pen_here", "_law_words_here", "_law_kind", "_law_letters_here", "_law_effect", "_law_idle", "_law_state", "_law_bit", "_law_deeds_here", "_law_turn", "_law_end", "_law_pick", "_law_more", "_law_both"]) (sc := defScope s__law_kind_right) (by decide +kernel)) (fun _ _ _ _ _ => (pg_name (i := 9) sc__law_kind_right.nd rfl (Or.inl rfl))) (fun _ _ _ _ _ => pts_nil) (fun _ _ _ _ _ => (pc c_law_draw rm (by decide) gd rfl (pa_cons (pv 0) (pa_cons pe_int pa_nil)))))
        (pss_cons (ps_if (pt_cmpR op_notIn_seq (pc c_law_led rm (by decide) gd rfl (pa_cons (pv 7) (pa_cons (pv 3) (pa_cons (pv 8) pa_nil)))) (pe_ownC eC eF eN FEC (rm.mono (by decide)) gd bEC pass0 (pv 4) (pa_cons (pv 6) pa_nil)) rfl)
          (pss_one (ps_ret pe_bl))
          pss_nil)
        (pss_one (ps_if (pt_cmpR (op_neD rm.units) (pe_tup (pa_cons (pc c_law_led rm (by decide) gd rfl (pa_cons (pc c_law_set_up rm (by decide) gd rfl (pa_cons (pv 2) (pa_cons (pv 6) pa_nil))) (pa_cons (pv 3) (pa_cons (pe_op op_rep (pe_lst (pa_cons pe_int pa_nil)) (pe_op op_add (pe_callB call_len_str (by rfl) B.g_len (by decide +kernel) (pa_cons (pv 3) pa_nil)) pe_int)) pa_nil)))) pa_nil)) (pe_ownC eC eF eN FEC (rm.mono (by decide)) gd bEC pass0 (pv 5) (pa_cons (pv 6) pa_nil)) (nomark _))
          (pss_one (ps_ret pe_bl))
          pss_nil))))
        pss_nil)
      (pss_one (ps_for PassesOwn.never rfl (pi_tup (pc c_law_states rm (by decide) gd rfl (pa_cons (pv 1) pa_nil))) (pg_name (i := 10) sc__law_kind_right.nd rfl (Or.inl rfl))
        (pss_cons (ps_set (i := 11) sc__law_kind_right.nd rfl (Or.inl rfl) (pc c_law_way rm (by decide) gd rfl (pa_cons (pv 1) (pa_cons (pv 6) (pa_cons (pv 10) (pa_cons (pv 3) pa_nil))))))
        (pss_cons (ps_if (pt_cmpR op_ne (pe_cmpR op_notN (pv 11) pe_non (nomark _)) (pe_cmpR op_in_seq (pv 10) (pe_ownC eC eF eN FEC (rm.mono (by decide)) gd bEC pass0 (pv 4) (pa_cons (pv 6) pa_nil)) rfl) (nomark _))
          (pss_one (ps_ret pe_bl))
          pss_nil)
        (pss_one (ps_if (PW.pt (pw_and (pt_cmpR op_notN (pv 11) pe_non (nomark _)) (pw_and1 (pt_cmpR op_notN (pv 7) pe_non (nomark _)))))
          (pss_one (ps_if (pt_cmpR op_ne (pc c_law_led rm (by decide) gd rfl (pa_cons (pc c_law_set_up rm (by decide) gd rfl (pa_cons (pv 2) (pa_cons (pv 6) pa_nil))) (pa_cons (pv 3) (pa_cons (pv 11) pa_nil)))) (pv 10) (nomark _))
            (pss_one (ps_ret pe_bl))
            pss_nil))
          pss_nil)))))))))
    (pss_cons (ps_set (i := 12) sc__law_kind_right.nd rfl (Or.inl rfl) (pc c_law_letters rm (by decide) gd rfl (pa_cons (pv 0) (pa_cons pe_int pa_nil))))
    (pss_cons (ps_set (i := 13) sc__law_kind_right.nd rfl (Or.inl rfl) (pe_op (op_OO hcE muI muF FMU (rm.mono (by decide)) gd bMU pass0) (pv 4) (pe_gcmD (pe_glob (v := .ref CE) rfl TE.g_Effect rfl) CR CM FOF (rm.mono (by decide)) gd bO vO pass0 (pa_cons (pv 2) (pa_cons (pv 12) pa_nil)))))
    (pss_one (ps_ret (pe_cmpR (op_eqO FEE (rm.mono (by decide)) gd eeI eeF bEE pass0) (pv 13) (pe_gcmD (pe_glob (v := .ref CE) rfl TE.g_Effect rfl) CR CM FOF (rm.mono (by decide)) gd bO vO pass0 (pa_cons (pv 2) (pa_cons (pe_op op_add_str (pv 3) (pv 12)) pa_nil))) (nomark _))))))))))), ?_⟩
    walk_at "go"
    refine ⟨p, l, cells, n, rfl, pen, by omega, fun t r wr d H1 hr hw hd nt ht pen1 k1 => ?_⟩
    have kd : Kd r wr d := ⟨hr, hw, hd⟩
    walk_at "go"
    refine make fun k dk H4 n4 h4 s4 => ?_
    refine ⟨k, dk, r, wr, d, rfl, h4, hr, hw, hd, fun H5 hk5 e5 => ⟨rfl, ?_⟩⟩
    have s5 : Same H1 H5 := fun b o e => e5 b o (s4 b o e) (ne_of_none e n4)
    have pen5 := pen1.same s5
    have ht5 := s5 _ _ ht
    walk_at "go"
    refine ⟨p, l, cells, n + 3, 10, rfl, pen5, by omega, by decide, by decide, fun x H6 lx pen6 k6 => ?_⟩
    obtain ⟨i5, j5, hp5⟩ := pen5.atp
    have hk6 := hk5.kpD hp5 k6
    have ht6 := tup_kpD ht5 hp5 k6
    walk_at "go"
    unfold tCmD
    walk_at "go"
    refine ⟨rfl, ?_⟩
    walk_at "go"
    refine ⟨k, x, r, wr, d, false, rfl, lx.lets, hk6, kd, fun e H7 n7 he s7 => ?_⟩
    walk_at "go"
    unfold tCmM
    walk_at "go"
    refine ⟨rfl, ?_⟩
    walk_at "go"
    refine ⟨rfl, rfl, k, x, r, wr, d, true, rfl, lx.lets, hk6.sm s7, kd, fun z H8 n8 hz s8 => ?_⟩
    refine ⟨_, _, rfl, ?_⟩
    walk_at "go"
    have pen8 := (pen6.same s7).same s8
    have t8 := s8 _ _ (s7 _ _ ht6)
    refine ⟨t, r, wr, d, rfl, t8, fun ts H9 n9 hts s9 => ?_⟩
    have pen9 := pen8.same s9
    have e9 := (he.sm s8).sm s9
    have z9 := hz.sm s9
    have k9 := ((hk6.sm s7).sm s8).sm s9
    have t9 := s9 _ _ t8
    obtain ⟨i9, j9, hp9⟩ := pen9.atp
    clear he hz hk6 t8 ht6 ht5 hk5
    have hcs := lx.2
    have hlen : (x.length : Int) = ((x.cps.size : Nat) : Int) := rfl
    have n12 := lx.1
    have rF := ofR_rows (q := false) kd hcs
    have rG := ofR_rows (q := true) kd hcs
    have n4 := stN_len wr
    have hxl : x.length ≤ sizeLine := Nat.le_trans n12 (by decide)
    refine over_t (SqT.of hts) ?_
    refine for_tup (K := K) (a := ts) (xs := (stN wr).map V.int) (fun i σ H' => (∃ v6 v7 v8 v9 v10 v11, σ = [some (.ref p), some (.ref t), some (.ref k), some (.str x), some (.ref e), some (.ref z), v6, v7, v8, v9, v10, v11, none, none]) ∧ PenC (n + 48 + 13 * i) p l cells H' ∧ Kp p H9 H') ⟨⟨none, none, none, none, none, none, rfl⟩, pen9, Kp.refl⟩ (fun i σ H' _ ⟨_, _, kp⟩ => SqT.of (tup_kpD hts hp9 kp)) (fun i y σ H10 hy ⟨⟨v6, v7, v8, v9, v10, v11, eσ⟩, pen10, kp10⟩ => ?_) (fun σ H10 ⟨⟨v6, v7, v8, v9, v10, v11, eσ⟩, pen10, pen10k⟩ => ?_)
    · subst eσ
      obtain ⟨s, hs, rfl⟩ := ints_at hy
      have hsN : s ∈ stN wr := List.mem_of_getElem? hs
      have dm := dom_stN.mpr hsN
      have hi := (List.getElem?_eq_some_iff.mp hs).1
      obtain rfl := stN_at hs
      walk_at "go"
      refine ⟨k, r, wr, d, _, rfl, k9.kpD hp9 kp10, kd, hsN, fun a H11 na hb s11 => ?_⟩
      walk_at "go"
      have pen11 := pen10.same s11
      obtain ⟨ap, al⟩ := pen10.ne na
      have kp11 := kp10.sm s11
      obtain ⟨i11, j11, hp11⟩ := pen11.atp
      refine w_mid (fun σ' H' => (∃ v8 v9, σ' = [some (.ref p), some (.ref t), some (.ref k), some (.str x), some (.ref e), some (.ref z), some (.int (i : Int)), some (.ref a), v8, v9, v10, v11, none, none]) ∧ PenC (n + 48 + 13 * (i + 1)) p l cells H' ∧ Kp p H9 H') ?_ ?_
      · walk_at "go"
        refine ⟨rfl, ?_⟩
        walk_at "go"
        refine iteYs (show (!decide (V.ref a = V.non)) = true by simp) ?_
        walk_at "go"
        refine ⟨x, rfl, hxl, ?_⟩
        walk_at "go"
        refine over_r (by omega) (by omega) ?_
        intro D nD
        have zD : Same H11 (upd H11 D (.lst [])) := fun b u e => by
          rw [upd_ne (ne_of_none e nD)]
          exact e
        obtain ⟨Dp, Dl⟩ := pen11.ne nD
        have nDa : D ≠ a := fun e => by
          obtain ⟨_, hb1, _⟩ := id hb
          rw [← e, nD] at hb1
          cases hb1
        refine lc_range (lo := 0) (n := ((x.length : Int) + 1).toNat) (fun j H' => ∃ ds : List Int, H' D = some (.lst (ds.map V.int)) ∧ ds.length = j ∧ (∀ q ∈ ds, 0 ≤ q ∧ q ≤ 1000) ∧ PenC (n + 48 + 13 * i + j) p l cells H' ∧ Kp p H11 H') ⟨[], upd_same, rfl, fun c hc => by simp at hc, pen11.same zD, kpS zD⟩ (fun j H12 hj ⟨ds, hD, hl, hq, pen12, kp12⟩ => ?_) (fun H12 ⟨ds, hD, hl, hq, pen12, kp12⟩ => ?_)
        · walk_at "go"
          refine ⟨rfl, ?_⟩
          try unfold tYes
          refine iteT ?_
          walk_at "go"
          refine ⟨p, l, cells, _, 3, rfl, pen12, by omega, by decide, by decide, fun q H13 q0 q1 pen13 k13 => ?_⟩
          refine ⟨_, k13 _ _ hD Dp, big_of (by rw [List.length_map]; omega), ds ++ [q], ?_, by rw [List.length_append, hl]; rfl, fun y hy => ?_, pen13.put Dp Dl, fun b o hb nb => ?_⟩
          · rw [upd_same, List.map_append]
            rfl
          · rcases List.mem_append.mp hy with hy | hy
            · exact hq y hy
            · rw [List.mem_singleton.mp hy]
              omega
          · rw [upd_ne (ne_of_none hb nD)]
            exact k13 _ _ (kp12 _ _ hb nb) nb
        · walk_at "go"
          have hb12 := hb.kpD hp11 kp12
          have dl : ds.length = x.cps.size + 1 := by omega
          refine ⟨a, k, D, r, wr, d, _, x, ds, rfl, hb12, kd, lx.lets, .inl fun H' k' => SqL.of (k' _ _ hD nDa), dl, hq, fun H14 hb14 k14 => ?_⟩
          walk_at "go"
          have kp14 := kp10.lead na (Kp.trans (kpS s11) kp12) k14
          have pen14 := pen12.lead ap al k14
          refine ⟨e, rfl, ?_⟩
          walk_at "go"
          have e14 := e9.kpD hp9 kp14
          obtain ⟨dx, fs, g1⟩ := e14.row
          obtain ⟨row, g2, g3⟩ := row_ex rF hi
          refine ⟨dx, fs, g1, e, k, r, wr, d, _, i, row, rfl, e14, g2, fun b hbr => ?_⟩
          refine w_in (.inr (SqT.of hbr)) rfl (flat_ints _) ?_
          rw [if_pos rfl, inV_ints]
          have inn := (led_row kd dm ds (by rw [dl, Array.length_toList])).2
          rw [g3] at inn
          have inb : (!row.contains (ledF r wr d (i : Int) x.cps.toList ds)) = false := by simpa using inn
          walk_at "go"
          refine iteNo inb ?_
          walk_at "go"
          refine ⟨k, r, wr, d, _, rfl, k9.kpD hp9 kp14, kd, hsN, fun a2 H15 na2 hb2 s15 => ?_⟩
          walk_at "go"
          refine new (show 1 ≤ sizeLine by decide) fun l16 H16 n16 h16 s16 => ?_
          walk_at "go"
          refine ⟨x, rfl, hxl, ?_⟩
          walk_at "go"
          refine ⟨l16, (x.length : Int) + 1, _, rfl, rfl, h16, by omega, by omega, Nat.le_trans (show 1 * ((x.length : Int) + 1).toNat ≤ 13 by omega) (by decide), fun p17 n17 => ?_⟩
          have er : (List.replicate ((x.length : Int) + 1).toNat [V.int 0]).flatten = (List.replicate (x.cps.toList.length + 1) (0 : Int)).map V.int := by
            rw [List.flatten_replicate_singleton, List.map_replicate]
            congr 1
          rw [er]
          have s17 : Same H16 (upd H16 p17 (.lst ((List.replicate (x.cps.toList.length + 1) (0 : Int)).map V.int))) := fun b o e => by
            rw [upd_ne (ne_of_none e n17)]
            exact e
          have h17 : upd H16 p17 (.lst ((List.replicate (x.cps.toList.length + 1) (0 : Int)).map V.int)) p17 = some (.lst ((List.replicate (x.cps.toList.length + 1) (0 : Int)).map V.int)) := upd_same
          generalize upd H16 p17 (.lst ((List.replicate (x.cps.toList.length + 1) (0 : Int)).map V.int)) = H17 at s17 h17
          walk_at "go"
          have s1517 : Same H15 H17 := s16.trans s17
          have hb17 := hb2.sm s1517
          have n17a : p17 ≠ a2 := fun e => by
            obtain ⟨_, hb1, _⟩ := id (hb2.sm s16)
            rw [← e, n17] at hb1
            cases hb1
          refine ⟨a2, k, p17, r, wr, d, _, x, _, rfl, hb17, kd, lx.lets, .inl fun H' k' => SqL.of (k' _ _ h17 n17a), by rw [List.length_replicate, Array.length_toList], fun q hq => ?_, fun H18 hb18 k18 => ?_⟩
          · rw [List.eq_of_mem_replicate hq]
            decide
          walk_at "go"
          refine new (show 1 ≤ sizeLine by decide) fun t19 H19 n19 h19 s19 => ?_
          have kp18 := kp14.lead na2 (kpS (s15.trans s1517)) k18
          obtain ⟨a2p, a2l⟩ := pen14.ne na2
          have pen18 := (pen14.same (s15.trans s1517)).lead a2p a2l k18
          have kp19 := kp18.sm s19
          refine ⟨z, rfl, ?_⟩
          walk_at "go"
          have z19 := z9.kpD hp9 kp19
          obtain ⟨dx2, fs2, g4⟩ := z19.row
          obtain ⟨row2, g5, g6⟩ := row_ex rG hi
          refine ⟨dx2, fs2, g4, z, k, r, wr, d, _, i, row2, rfl, z19, g5, fun b2 hbr2 => ?_⟩
          have qu := (quiet_row (cs := x.cps.toList) kd dm).2
          rw [g6] at qu
          rw [qu] at hbr2
          refine ⟨.tuple [.int _], .tuple [.int _], .tup (SqT.of h19) (.cons (.int _) .nil), .tup (SqT.of hbr2) (.cons (.int _) .nil), sh_one _, sh_one _, ?_⟩
          rw [eqv_one]
          walk_at "go"
          refine iteNo rfl ?_
          exact ⟨⟨_, _, rfl⟩, (pen18.same s19).mono (by omega), kp19⟩
      · rintro σ' H20 ⟨⟨v8', v9', rfl⟩, pen20, kp20⟩
        walk_at "go"
        refine ⟨t, r, wr, d, rfl, tup_kpD t9 hp9 kp20, fun ts2 H21 n21 hts2 s21 => ?_⟩
        have pen21 := pen20.same s21
        have kp21 := kp20.sm s21
        obtain ⟨i21, j21, hp21⟩ := pen21.atp
        refine over_t (SqT.of hts2) ?_
        refine for_tup (K := K) (a := ts2) (xs := (stN wr).map V.int) (fun j σ H' => (∃ v10 v11, σ = [some (.ref p), some (.ref t), some (.ref k), some (.str x), some (.ref e), some (.ref z), some (.int (i : Int)), some (.ref a), v8', v9', v10, v11, none, none]) ∧ PenC (n + 48 + 13 * (i + 1)) p l cells H' ∧ Kp p H21 H') ⟨⟨_, _, rfl⟩, pen21, Kp.refl⟩ (fun i σ H' _ ⟨_, _, kp⟩ => SqT.of (tup_kpD hts2 hp21 kp)) (fun j y σ H22 hy2 ⟨⟨v10', v11', eσ⟩, pen22, kq22⟩ => ?_) (fun σ H22 ⟨⟨v10', v11', eσ⟩, pen22, kq22⟩ => ?_)
        · subst eσ
          obtain ⟨m, hm, rfl⟩ := ints_at hy2
          have kp22 := kp21.trans kq22
          have rest : ∀ (H23 : Hp), Same H22 H23 → Kp p H9 H23 ∧ Kp p H21 H23 ∧ PenC (n + 48 + 13 * (i + 1)) p l cells H23 := fun H23 s23 => ⟨kp22.sm s23, kq22.sm s23, pen22.same s23⟩
          obtain ⟨row, g2, g3⟩ := row_ex rF hi
          walk_at "go"
          have wi := way_iff (e := m) kd dm hcs
          rw [g3] at wi
          refine ⟨t, r, wr, d, _, _, x, rfl, tup_kpD t9 hp9 kp22, kd, dm, lx.lets, fun hw H23 s23 => ?_, fun pk tp H23 hw htp s23 => ?_⟩
          · obtain ⟨kp23, kq23, pen23⟩ := rest H23 s23
            rw [hw] at wi
            walk_at "go"
            refine ⟨rfl, ?_⟩
            walk_at "go"
            refine ⟨e, rfl, ?_⟩
            walk_at "go"
            have e23 := e9.kpD hp9 kp23
            obtain ⟨dx, fs, g1⟩ := e23.row
            refine ⟨dx, fs, g1, e, k, r, wr, d, _, i, row, rfl, e23, g2, fun b hbr => ?_⟩
            refine w_in (.inr (SqT.of hbr)) rfl (flat_ints _) ?_
            rw [if_neg (by decide), inV_ints, ← wi]
            walk_at "go"
            refine iteNo (by simp) ?_
            walk_at "go"
            refine ⟨rfl, ?_⟩
            walk_at "go"
            refine iteNo (show (!decide (V.non = V.non)) = false by simp) ?_
            refine iteNo rfl ?_
            exact ⟨⟨_, _, rfl⟩, pen23, kq23⟩
          · obtain ⟨kp23, kq23, pen23⟩ := rest H23 s23
            rw [hw] at wi
            walk_at "go"
            refine ⟨rfl, ?_⟩
            walk_at "go"
            refine ⟨e, rfl, ?_⟩
            walk_at "go"
            have e23 := e9.kpD hp9 kp23
            obtain ⟨dx, fs, g1⟩ := e23.row
            refine ⟨dx, fs, g1, e, k, r, wr, d, _, i, row, rfl, e23, g2, fun b hbr => ?_⟩
            refine w_in (.inr (SqT.of hbr)) rfl (flat_ints _) ?_
            rw [if_neg (by decide), inV_ints, ← wi]
            walk_at "go"
            refine iteNo (by simp) ?_
            walk_at "go"
            refine ⟨rfl, ?_⟩
            walk_at "go"
            refine iteYs (show (!decide (V.ref tp = V.non)) = true by simp) ?_
            walk_at "go"
            refine ⟨rfl, ?_⟩
            walk_at "go"
            refine iteYs (show (!decide (V.ref a = V.non)) = true by simp) ?_
            walk_at "go"
            refine ⟨k, r, wr, d, _, rfl, k9.kpD hp9 kp23, kd, hsN, fun a2 H25 na2 hb2 s25 => ?_⟩
            walk_at "go"
            obtain ⟨pl, p01, pe⟩ := way_some kd.2.1 dm hw
            have ht25 := s25 _ _ htp
            have nta : tp ≠ a2 := fun e => by
              rw [← e, htp] at na2
              cases na2
            refine ⟨a2, k, tp, r, wr, d, _, x, pk, rfl, hb2, kd, lx.lets, .inr fun H' k' => SqT.of (k' _ _ ht25 nta), by rw [pl, Array.length_toList], fun q hq => ?_, fun H26 hb26 k26 => ?_⟩
            · rcases p01 q hq with rfl | rfl <;> decide
            rw [pe]
            walk_at "go"
            refine iteNo (by simp) ?_
            obtain ⟨a2p, a2l⟩ := pen23.ne na2
            exact ⟨⟨_, _, rfl⟩, (pen23.same s25).lead a2p a2l k26, kq23.lead na2 (kpS s25) k26⟩
        · subst eσ
          exact ⟨⟨_, _, _, _, _, _, rfl⟩, pen22, kp21.trans kq22⟩
    · subst eσ
      rw [List.length_map] at pen10
      walk_at "go"
      refine ⟨p, l, cells, n + 100, 6, rfl, pen10.mono (by omega), by omega, by decide, by decide, fun y H11 ly pen11 k11 => ?_⟩
      obtain ⟨i10, j10, hp10⟩ := (pen10.mono (show n + 48 + 13 * (stN wr).length ≤ n + 100 by omega)).atp
      have kp11 : Kp p H9 H11 := pen10k.trans k11
      walk_at "go"
      refine ⟨rfl, ?_⟩
      walk_at "go"
      refine ⟨k, y, r, wr, d, false, rfl, ly.lets, k9.kpD hp9 kp11, kd, fun e2 H12 n12' he2 s12 => ?_⟩
      have e12 := (e9.kpD hp9 kp11).sm s12
      have pen12 := pen11.same s12
      have rY := ofR_rows (q := false) kd ly.2
      obtain ⟨dx, fs, g1⟩ := e12.row
      obtain ⟨dy, gs, g2⟩ := he2.row
      refine ⟨e, e2, dx, dy, _, _, rfl, rfl, g1, g2, e, e2, k, k, r, wr, d, _, _, rfl, e12, he2, rF, rY, fun eM H13 n13 heM s13 => ?_⟩
      walk_at "go"
      refine ⟨rfl, ?_⟩
      have hxy := cat_lets lx ly
      have hl2 : (x.length : Nat) + (y.length : Nat) ≤ sizeLine := by
        have := ly.1
        have : x.cps.size + y.cps.size ≤ 24 := by omega
        exact Nat.le_trans this (by decide)
      walk_at "go"
      refine ⟨x, y, rfl, rfl, hl2, ?_⟩
      walk_at "go"
      refine ⟨k, x ++ y, r, wr, d, false, rfl, ⟨Nat.le_trans hxy.1 (by decide), hxy.2⟩, ((k9.kpD hp9 kp11).sm s12).sm s13, kd, fun e3 H14 n14 he3 s14 => ?_⟩
      have heM14 := heM.sm s14
      obtain ⟨dM, tM, g5, _⟩ := id heM14
      obtain ⟨d3, t3, g6, _⟩ := id he3
      refine ⟨eM, dM, _, .ref CE, rfl, g5, .base (.ins g6 clE TE.isC isG isT TE.isM), nfE, eM, e3, k, k, r, wr, d, r, wr, d, _, _, rfl, heM14, he3, _, rfl, ?_⟩
      rw [eqv_rows, cat_list, of_app kd _ _ ly.2]
      simp only [decide_true, Bool.and_self]
      walk_at "go"
      exact q _ (((pen12.same s13).same s14).mono (by omega))
end
end Law


set_option Elab.async false
set_option linter.all false
set_option maxRecDepth 100000
set_option maxHeartbeats 4000000
namespace Law
open PySem PySem.Spec PySem.Calls PyProof.Rows L2 KG LamX
local macro_rules | `(tactic| walk_at "1") => `(tactic| first
  | (with_reducible refine w_var rfl ?_) | (with_reducible refine w_c ?_) | (with_reducible refine w_seq ?_) | (with_reducible refine w_asg ?_) | (with_reducible refine w_gname ?_) | (with_reducible refine w_op ?_) | (with_reducible refine w_un ?_)
  | (with_reducible refine w_add ?_) | (with_reducible refine w_sub ?_) | ((with_reducible refine' w_mod ?mo ?_); (case mo => first | assumption | decide | omega)) | (with_reducible refine w_and ?_) | (with_reducible refine w_or ?_) | (with_reducible refine w_xor ?_)
  | (with_reducible refine w_gt ?_) | (with_reducible refine w_lt ?_) | (with_reducible refine w_ge ?_) | (with_reducible refine w_le ?_) | ((with_reducible refine' w_eq ?sc ?_); (case sc => rfl)) | ((with_reducible refine' w_ne ?sc ?_); (case sc => rfl))
  | (with_reducible refine w_ret ?_) | (with_reducible refine w_next ?_) | (with_reducible refine w_ifs ?_) | (with_reducible refine w_ifx ?_) | (with_reducible refine w_test ?_) | (with_reducible refine w_tB ?_) | (with_reducible refine w_bl ?_)
  | ((with_reducible refine' w_ixL ?ixh ?ixa ?_); (case ixh => first | exact SqL.of (by assumption)); (case ixa => first | rfl | skip)) | ((with_reducible refine' w_ixT ?ixh ?ixa ?_); (case ixh => first | exact SqT.of (by assumption)); (case ixa => first | rfl | skip))
  | ((with_reducible refine' w_fld ?_)) | ((with_reducible refine' fld ?fh ?fc ?fn ?fl ?_); (case fh => assumption); (case fc => assumption); (case fn => assumption); (case fl => rfl)) | (with_reducible refine w_sfld ?_)
  | (with_reducible refine Or.inl ⟨_, rfl, ?_⟩) | (with_reducible refine w_gsub ?_) | (with_reducible refine w_andV ?_) | (with_reducible refine w_orV ?_)
  | (with_reducible refine w_nil ?_) | (with_reducible refine w_cons ?_) | (with_reducible refine w_tup ?_) | (with_reducible refine w_lst ?_) | (with_reducible refine w_and2 ?_) | (with_reducible refine w_or2 ?_) | (with_reducible refine w_not ?_) | (with_reducible refine w_cb ?_) | (with_reducible refine w_call ?_) | (with_reducible refine w_par ?_) | (with_reducible refine w_pnil ?_) | (with_reducible refine w_pcons ?_) | (with_reducible refine w_dput ?_) | (with_reducible refine w_dget ?_) | (with_reducible refine w_for ?_) | (with_reducible refine w_itup ?_) | (with_reducible refine w_ilist ?_) | (with_reducible refine w_irng ?_) | (with_reducible refine w_meth ?_) | (with_reducible refine w_make ?_) | (with_reducible refine w_makeK ?_) | (with_reducible refine w_methK ?_) | ((with_reducible refine' mth ?mh ?ml ?_); (case mh => assumption); (case ml => rfl)) | (with_reducible refine w_drop ?_))
local macro_rules | `(tactic| walk_at "go") => `(tactic| ((repeat (walk_at "1")); try dsimp only))
local macro_rules | `(tactic| walk_at "1") => `(tactic| first
  | (with_reducible refine w_notV ?_) | (with_reducible refine w_callK ?_) | (with_reducible refine w_lc ?_) | (with_reducible refine w_chain ?_) | (with_reducible refine w_neg ?_) | ((with_reducible refine' w_shr ?mo ?_); (case mo => first | assumption | omega)))
def spLaw (K : PySem.W.Frag) : Sp := fun vs H Q _ => ∃ (a : Addr) (ns : List Int), vs = [.ref a] ∧ SqL K H a (ns.map V.int) ∧ ns.length ≤ 63 ∧ ∀ H', Q (.bl true) H'
section
variable {P : Program} {w : World} {K : PySem.W.Frag} {mg : Str → Option Value} {base : Heap}
theorem ok_law {fl : Addr} {fd : FuncData} (F : Fun K "law" "law" s_law fl fd) (c_law_pen : Cal P w K mg base 1 "_law_pen" (spPen K)) (c_law_kind_right : Cal P w K mg base 9 "_law_kind_right" spKR) : Gd P w K mg base CX0 10 fl fd ["_law_script"] (spLaw K) := by
  refine gd0 (k := 9) F sc_law (fun vs H Q E h => ?_) (fun cdv A outer s H vs Q E rm gd h => ?_)
  · obtain ⟨a, ns, rfl, _⟩ := h
    rfl
  · obtain ⟨a, ns, rfl, hS, hlen, q⟩ := h
    refine ⟨_, (pss_cons (ps_set (i := 1) sc_law.nd rfl (Or.inl rfl) (pc c_law_pen rm (by decide) gd rfl (pa_cons (pv 0) pa_nil)))
    (pss_one (ps_ret (pe_and (pc c_law_kind_right rm (by decide) gd rfl (pa_cons (pv 1) pa_nil)) (pe_one (pc c_law_kind_right rm (by decide) gd rfl (pa_cons (pv 1) pa_nil))))))), ?_⟩
    walk_at "go"
    refine ⟨a, ns, rfl, hS, hlen, fun p l cells H1 np pen1 s1 => ?_⟩
    walk_at "go"
    refine ⟨p, l, cells, 0, rfl, pen1, by decide, fun H2 pen2 => ?_⟩
    walk_at "go"
    refine iteYs rfl ?_
    walk_at "go"
    refine ⟨p, l, cells, 300, rfl, pen2, by decide, fun H3 pen3 => ?_⟩
    exact q _
end
end Law

set_option Elab.async false
set_option linter.all false
set_option maxRecDepth 100000
set_option maxHeartbeats 4000000
namespace Law
open PySem PySem.Spec PySem.Calls PyProof.Rows L2 KG
local macro_rules | `(tactic| walk_at "1") => `(tactic| first
  | (with_reducible refine w_var rfl ?_) | (with_reducible refine w_c ?_) | (with_reducible refine w_seq ?_) | (with_reducible refine w_asg ?_) | (with_reducible refine w_gname ?_) | (with_reducible refine w_op ?_) | (with_reducible refine w_un ?_)
  | (with_reducible refine w_add ?_) | (with_reducible refine w_sub ?_) | ((with_reducible refine' w_mod ?mo ?_); (case mo => first | assumption | decide | omega)) | (with_reducible refine w_and ?_) | (with_reducible refine w_or ?_) | (with_reducible refine w_xor ?_)
  | (with_reducible refine w_gt ?_) | (with_reducible refine w_lt ?_) | (with_reducible refine w_ge ?_) | (with_reducible refine w_le ?_) | ((with_reducible refine' w_eq ?sc ?_); (case sc => rfl)) | ((with_reducible refine' w_ne ?sc ?_); (case sc => rfl))
  | (with_reducible refine w_ret ?_) | (with_reducible refine w_next ?_) | (with_reducible refine w_ifs ?_) | (with_reducible refine w_ifx ?_) | (with_reducible refine w_test ?_) | (with_reducible refine w_tB ?_) | (with_reducible refine w_bl ?_)
  | ((with_reducible refine' w_ixL ?ixh ?ixa ?_); (case ixh => first | exact SqL.of (by assumption)); (case ixa => first | rfl | skip)) | ((with_reducible refine' w_ixT ?ixh ?ixa ?_); (case ixh => first | exact SqT.of (by assumption)); (case ixa => first | rfl | skip))
  | ((with_reducible refine' w_fld ?_)) | ((with_reducible refine' fld ?fh ?fc ?fn ?fl ?_); (case fh => assumption); (case fc => assumption); (case fn => assumption); (case fl => rfl)) | (with_reducible refine w_sfld ?_)
  | (with_reducible refine Or.inl ⟨_, rfl, ?_⟩) | (with_reducible refine w_gsub ?_) | (with_reducible refine w_andV ?_) | (with_reducible refine w_orV ?_)
  | (with_reducible refine w_nil ?_) | (with_reducible refine w_cons ?_) | (with_reducible refine w_tup ?_) | (with_reducible refine w_lst ?_) | (with_reducible refine w_and2 ?_) | (with_reducible refine w_or2 ?_) | (with_reducible refine w_not ?_) | (with_reducible refine w_cb ?_) | (with_reducible refine w_call ?_) | (with_reducible refine w_par ?_) | (with_reducible refine w_pnil ?_) | (with_reducible refine w_pcons ?_) | (with_reducible refine w_dput ?_) | (with_reducible refine w_dget ?_) | (with_reducible refine w_for ?_) | (with_reducible refine w_itup ?_) | (with_reducible refine w_ilist ?_) | (with_reducible refine w_irng ?_) | (with_reducible refine w_meth ?_) | (with_reducible refine w_make ?_) | (with_reducible refine w_makeK ?_) | (with_reducible refine w_methK ?_) | ((with_reducible refine' mth ?mh ?ml ?_); (case mh => assumption); (case ml => rfl)) | (with_reducible refine w_drop ?_))
local macro_rules | `(tactic| walk_at "go") => `(tactic| ((repeat (walk_at "1")); try dsimp only))
local macro_rules | `(tactic| walk_at "1") => `(tactic| first
  | (with_reducible refine w_notV ?_) | (with_reducible refine w_callK ?_) | (with_reducible refine w_lc ?_) | (with_reducible refine w_chain ?_) | (with_reducible refine w_neg ?_) | ((with_reducible refine' w_shr ?mo ?_); (case mo => first | assumption | omega)))
theorem ktup {K : PySem.W.Frag} {a : Addr} {dd : Option Addr} {its : Array Value} {n : Nat} {sl : Array (Option Value)} {xs : List V} (h : K.lookup a = some ⟨.type "tuple", dd, .seq its n, sl⟩) (z : Nat.ble its.size 100 = true) (r : Vals xs its.toList) : KTup K a xs :=
  ⟨_, its, n, h, rfl, rfl, Nat.le_trans (Nat.le_of_ble_eq_true z) (by decide), r⟩
theorem rec_at {K : PySem.W.Frag} {p g : Addr} {T : String} {d : Option Addr} {vs : Array Value} {ss : Array (Option Value)} {rs : List Value} (h : K.lookup p = some ⟨.type T, d, .fields vs, ss⟩) (v : vs.toList = .ref g :: rs) : PySem.W.recIn K p T = some (.ref g :: rs) := by
  unfold PySem.W.recIn
  rw [h]
  show (if (T == T) = true then some vs.toList else none) = _
  rw [beq_self_eq_true, if_pos rfl, v]
theorem vals_rev {x : List V} {y : List Value} (h : Vals x y) : Vals x.reverse y.reverse := by
  induction h with
  | nil => exact .nil
  | cons r _ ih =>
    rw [List.reverse_cons, List.reverse_cons]
    exact ih.append (.cons r .nil)

theorem binds_seq {K : PySem.W.Frag} {fd : FuncData} {ps : List Str} {ds its : List Value} {T : Addr} {o : Obj} {n : Nat} (lT : K.lookup T = some o) (dT : o.data = .seq its.toArray n)
    (h : ∀ us : List Value, (us ++ ds).length = ps.length → ∃ k, bindArgs fd ⟨us, []⟩ = seqItems? (.ref T) >>= k ∧ k (some its.toArray) = pure (ps.zip (us ++ ds))) : Binds K fd ps ds := fun s us kin hl M A E Q q => by
  obtain ⟨k, h1, h2⟩ := h us hl
  rw [h1]
  exact wpAny_bind (wpAny_seqItems (kin _ _ lT) dT (by rw [h2]; exact wpAny_pure q))
theorem bind_bit {K : PySem.W.Frag} {f : Addr} {fd : FuncData} (F : FunD K "__init__" "Bit.__init__" (defArgs s_Bit___init__) (defBody s_Bit___init__) (defScope s_Bit___init__) [.int 0] [] f fd) : Binds K fd ["self", "value"] [] := by
  have hd : ([.int 0] : List V) ≠ [] := by simp
  have z : ∃ ds, Vals (([.int 0] : List V).drop 1) ds ∧ Binds K fd ["self", "value"] ds := by
    refine F.binds1 2 1 hd rfl ?_
    intro T kV doc pm an cdv ct us its h1 h2
    match us, its, h1, h2 with
    | [_, _], [_], _, _ => exact ⟨_, rfl, rfl⟩
  obtain ⟨ds, v, b⟩ := z
  cases v
  exact b
theorem bi_of {mg : Str → Option Value} (B : B1 mg) : Bi mg := ⟨B.g_int, B.g_len, B.g_abs, B.g_list, B.g_repr, B.g_range, B.g_str⟩
theorem kb_ofM {K : PySem.W.Frag} {kV doc pm : Value} {an : Option Addr} {cdv ct : Value} : KBn K (PySem.W.fnOf "of" "Effect.of" (defArgs s_Effect_of) (defBody s_Effect_of) (defScope s_Effect_of) .none kV doc pm an cdv ct) ["cls", "kind", "letters", "quiet"] 3 ["quiet"] (fun us ws => us ++ ws) (fun us ws => us ++ ws) :=
  ⟨fun s us ws _ h1 h2 => match us, ws, h1, h2 with | [_, _, _], [_], _, _ => .of_eq rfl, fun a b => a.append b⟩
theorem bind_of {K : PySem.W.Frag} {f : Addr} {fd : FuncData} (F : FunD K "of" "Effect.of" (defArgs s_Effect_of) (defBody s_Effect_of) (defScope s_Effect_of) [] [("quiet", .bl false)] f fd) : ∃ ds, Vals [.bl false] ds ∧ Binds K fd ["cls", "kind", "letters", "quiet"] ds := by
  refine F.binds0 3 (by simp) rfl ?_
  intro D doc pm an cdv ct us ks h1 h2
  match us, ks, h1, h2 with
  | [_, _, _], [_], _, _ => exact ⟨_, _, _, _, _, _, rfl, rfl, rfl⟩
theorem all {l : PySem.W.OpenLaw} {w : World} {K : PySem.W.Frag} {h : Heap} {mg : Str → Option Value} {fa : Addr} (X : K.In h) (G : h.Ns mainGlobals mg) (hfa : mg "law" = some (.ref fa))
    {C aW aI aR bW aD CE : Addr} {mc mcE : Value} {tS tM tL : Tok} {u2 : Tok} {u3 : Tok} {ddt1 : Option Addr} {nnt1 : Nat} {sst1 : Array (Option Value)} {u5 : Tok} {u6 : Tok} {u7 : Tok} {u8 : Tok} {u9 : Tok} {u10 : Tok} {u11 : Tok} {ddt4 : Option Addr} {nnt4 : Nat} {sst4 : Array (Option Value)} {u13 : Tok} {u14 : Tok} {u15 : Tok} {u16 : Tok} {ddt12 : Option Addr} {nnt12 : Nat} {sst12 : Array (Option Value)} {esW esI : Array DictEntry} {nW_ nI_ : Nat} {w_store w_storea w_storeb : Addr} {ddt17 : Option Addr} {nnt17 : Nat} {sst17 : Array (Option Value)} {u19 : Tok} {u20 : Tok} {ddt18 : Option Addr} {nnt18 : Nat} {sst18 : Array (Option Value)} {u22 : Tok} {u23 : Tok} {ddt21 : Option Addr} {nnt21 : Nat} {sst21 : Array (Option Value)} {w_clear1 w_clear1a w_clear1b : Addr} {ddt24 : Option Addr} {nnt24 : Nat} {sst24 : Array (Option Value)} {u26 : Tok} {u27 : Tok} {ddt25 : Option Addr} {nnt25 : Nat} {sst25 : Array (Option Value)} {u29 : Tok} {u30 : Tok} {ddt28 : Option Addr} {nnt28 : Nat} {sst28 : Array (Option Value)} {w_clear0 w_clear0a w_clear0b : Addr} {ddt31 : Option Addr} {nnt31 : Nat} {sst31 : Array (Option Value)} {u33 : Tok} {u34 : Tok} {ddt32 : Option Addr} {nnt32 : Nat} {sst32 : Array (Option Value)} {u36 : Tok} {u37 : Tok} {ddt35 : Option Addr} {nnt35 : Nat} {sst35 : Array (Option Value)} {w_set1 w_set1a w_set1b : Addr} {ddt38 : Option Addr} {nnt38 : Nat} {sst38 : Array (Option Value)} {u40 : Tok} {u41 : Tok} {ddt39 : Option Addr} {nnt39 : Nat} {sst39 : Array (Option Value)} {u43 : Tok} {u44 : Tok} {ddt42 : Option Addr} {nnt42 : Nat} {sst42 : Array (Option Value)} {w_flip1 w_flip1a w_flip1b : Addr} {ddt45 : Option Addr} {nnt45 : Nat} {sst45 : Array (Option Value)} {u47 : Tok} {u48 : Tok} {ddt46 : Option Addr} {nnt46 : Nat} {sst46 : Array (Option Value)} {u50 : Tok} {u51 : Tok} {ddt49 : Option Addr} {nnt49 : Nat} {sst49 : Array (Option Value)} {w_once w_oncea w_onceb : Addr} {ddt52 : Option Addr} {nnt52 : Nat} {sst52 : Array (Option Value)} {u54 : Tok} {u55 : Tok} {ddt53 : Option Addr} {nnt53 : Nat} {sst53 : Array (Option Value)} {u57 : Tok} {u58 : Tok} {ddt56 : Option Addr} {nnt56 : Nat} {sst56 : Array (Option Value)} {w_none w_nonea w_noneb : Addr} {ddt59 : Option Addr} {nnt59 : Nat} {sst59 : Array (Option Value)} {u61 : Tok} {u62 : Tok} {ddt60 : Option Addr} {nnt60 : Nat} {sst60 : Array (Option Value)} {u64 : Tok} {u65 : Tok} {ddt63 : Option Addr} {nnt63 : Nat} {sst63 : Array (Option Value)} {i_still : Addr} {ddt66 : Option Addr} {nnt66 : Nat} {sst66 : Array (Option Value)} {i_raise : Addr} {u68 : Tok} {ddt67 : Option Addr} {nnt67 : Nat} {sst67 : Array (Option Value)} {i_end : Addr} {u70 : Tok} {ddt69 : Option Addr} {nnt69 : Nat} {sst69 : Array (Option Value)} {i_drift : Addr} {u72 : Tok} {u73 : Tok} {ddt71 : Option Addr} {nnt71 : Nat} {sst71 : Array (Option Value)} {m_Kind_init : Addr} {odv74 anv74 : Option Addr} {slv74 : Array (Option Value)} {ocv74 kVv74 dcv74 pmv74 cdv74 ctv74 : Value} {m_Kind_after_read : Addr} {odv75 anv75 : Option Addr} {slv75 : Array (Option Value)} {ocv75 kVv75 dcv75 pmv75 cdv75 ctv75 : Value} {m_Kind_after_write : Addr} {odv76 anv76 : Option Addr} {slv76 : Array (Option Value)} {ocv76 kVv76 dcv76 pmv76 cdv76 ctv76 : Value} {m_Kind_unguarded : Addr} {odv77 anv77 : Option Addr} {slv77 : Array (Option Value)} {ocv77 kVv77 dcv77 pmv77 cdv77 ctv77 : Value} {m_Kind_deeds : Addr} {odv78 anv78 : Option Addr} {slv78 : Array (Option Value)} {ocv78 kVv78 dcv78 pmv78 cdv78 ctv78 : Value} {m_Kind_eq : Addr} {odv79 anv79 : Option Addr} {slv79 : Array (Option Value)} {ocv79 kVv79 dcv79 pmv79 cdv79 ctv79 : Value} {m_Effect_init : Addr} {odv80 anv80 : Option Addr} {slv80 : Array (Option Value)} {ocv80 kVv80 dcv80 pmv80 cdv80 ctv80 : Value} {m_Effect_call : Addr} {odv81 anv81 : Option Addr} {slv81 : Array (Option Value)} {ocv81 kVv81 dcv81 pmv81 cdv81 ctv81 : Value} {m_Effect_eq : Addr} {odv82 anv82 : Option Addr} {slv82 : Array (Option Value)} {ocv82 kVv82 dcv82 pmv82 cdv82 ctv82 : Value} {m_Effect_mul : Addr} {odv83 anv83 : Option Addr} {slv83 : Array (Option Value)} {ocv83 kVv83 dcv83 pmv83 cdv83 ctv83 : Value} {pOF gOF kdOF : Addr} {ddOF : Option Addr} {vsOF : Array Value} {ssOF : Array (Option Value)} {rsOF : List Value} {odOF anOF : Option Addr} {slOF : Array (Option Value)} {ocOF dcOF pmOF cdOF ctOF : Value} {KB : Addr} {fkI fbI pN pS : Addr} {m_KindBit_read : Addr} {odv84 anv84 : Option Addr} {slv84 : Array (Option Value)} {ocv84 kVv84 dcv84 pmv84 cdv84 ctv84 : Value} {m_KindBit_write : Addr} {odv85 anv85 : Option Addr} {slv85 : Array (Option Value)} {ocv85 kVv85 dcv85 pmv85 cdv85 ctv85 : Value} {m_KindBit_deed : Addr} {odv86 anv86 : Option Addr} {slv86 : Array (Option Value)} {ocv86 kVv86 dcv86 pmv86 cdv86 ctv86 : Value} {cdakI cckI TDkI : Addr} {ockI kVkI dckI pmkI ctkI : Value} {ankI odkI : Option Addr} {slkI : Array (Option Value)} {cclkI ccvkI : Value} {cddkI cldkI : Option Addr} {vskI : Array Value} {ccskI cslkI : Array (Option Value)} {filekI : Str} {tfkI : Tok} {cdkI : ClassData} {odbI anbI : Option Addr} {slbI : Array (Option Value)} {ocbI kVbI dcbI pmbI cdbI ctbI : Value} {TDbI : Addr} {BB : Addr} {dTbI : Option Addr} {sTbI : Array (Option Value)} {oTbI : Value} {nTbI : Nat} {tubI : Tok} {dTkI : Option Addr} {sTkI : Array (Option Value)} {oTkI : Value} {nTkI : Nat} {tukI : Tok} {gN : Addr} {ddN : Option Addr} {vsN : Array Value} {ssN : Array (Option Value)} {rsN : List Value} {odv87 anv87 : Option Addr} {slv87 : Array (Option Value)} {ocv87 kVv87 dcv87 pmv87 cdv87 ctv87 : Value} {gS : Addr} {ddS : Option Addr} {vsS : Array Value} {ssS : Array (Option Value)} {rsS : List Value} {odv88 anv88 : Option Addr} {slv88 : Array (Option Value)} {ocv88 kVv88 dcv88 pmv88 cdv88 ctv88 : Value} {f_check_letters : Addr} {odv89 anv89 : Option Addr} {slv89 : Array (Option Value)} {ocv89 kVv89 dcv89 pmv89 cdv89 ctv89 : Value} {f_check_same_kind : Addr} {odv90 anv90 : Option Addr} {slv90 : Array (Option Value)} {ocv90 kVv90 dcv90 pmv90 cdv90 ctv90 : Value} {f_ends_without_letters : Addr} {odv91 anv91 : Option Addr} {slv91 : Array (Option Value)} {ocv91 kVv91 dcv91 pmv91 cdv91 ctv91 : Value} {f_ends_of_letter : Addr} {odv92 anv92 : Option Addr} {slv92 : Array (Option Value)} {ocv92 kVv92 dcv92 pmv92 cdv92 ctv92 : Value} {f_joined : Addr} {odv93 anv93 : Option Addr} {slv93 : Array (Option Value)} {ocv93 kVv93 dcv93 pmv93 cdv93 ctv93 : Value} {f_is_int : Addr} {odv94 anv94 : Option Addr} {slv94 : Array (Option Value)} {ocv94 kVv94 dcv94 pmv94 cdv94 ctv94 : Value} {f_full_word : Addr} {odv95 anv95 : Option Addr} {slv95 : Array (Option Value)} {ocv95 kVv95 dcv95 pmv95 cdv95 ctv95 : Value} {f_is_word : Addr} {odv96 anv96 : Option Addr} {slv96 : Array (Option Value)} {ocv96 kVv96 dcv96 pmv96 cdv96 ctv96 : Value} {f_check_word : Addr} {odv97 anv97 : Option Addr} {slv97 : Array (Option Value)} {ocv97 kVv97 dcv97 pmv97 cdv97 ctv97 : Value} {f__law_pen : Addr} {odv98 anv98 : Option Addr} {slv98 : Array (Option Value)} {ocv98 kVv98 dcv98 pmv98 cdv98 ctv98 : Value} {f__law_draw : Addr} {odv99 anv99 : Option Addr} {slv99 : Array (Option Value)} {ocv99 kVv99 dcv99 pmv99 cdv99 ctv99 : Value} {f__law_write : Addr} {odv100 anv100 : Option Addr} {slv100 : Array (Option Value)} {ocv100 kVv100 dcv100 pmv100 cdv100 ctv100 : Value} {f__law_read : Addr} {odv101 anv101 : Option Addr} {slv101 : Array (Option Value)} {ocv101 kVv101 dcv101 pmv101 cdv101 ctv101 : Value} {f__law_deeds : Addr} {odv102 anv102 : Option Addr} {slv102 : Array (Option Value)} {ocv102 kVv102 dcv102 pmv102 cdv102 ctv102 : Value} {f__law_words : Addr} {odv103 anv103 : Option Addr} {slv103 : Array (Option Value)} {ocv103 kVv103 dcv103 pmv103 cdv103 ctv103 : Value} {f__law_states : Addr} {odv104 anv104 : Option Addr} {slv104 : Array (Option Value)} {ocv104 kVv104 dcv104 pmv104 cdv104 ctv104 : Value} {f__law_letters : Addr} {odv105 anv105 : Option Addr} {slv105 : Array (Option Value)} {ocv105 kVv105 dcv105 pmv105 cdv105 ctv105 : Value} {f__law_set_up : Addr} {odv106 anv106 : Option Addr} {slv106 : Array (Option Value)} {ocv106 kVv106 dcv106 pmv106 cdv106 ctv106 : Value} {f__law_led : Addr} {odv107 anv107 : Option Addr} {slv107 : Array (Option Value)} {ocv107 kVv107 dcv107 pmv107 cdv107 ctv107 : Value} {f__law_way : Addr} {odv108 anv108 : Option Addr} {slv108 : Array (Option Value)} {ocv108 kVv108 dcv108 pmv108 cdv108 ctv108 : Value} {f__law_letter : Addr} {odv109 anv109 : Option Addr} {slv109 : Array (Option Value)} {ocv109 kVv109 dcv109 pmv109 cdv109 ctv109 : Value} {f__law_kind_right : Addr} {odv110 anv110 : Option Addr} {slv110 : Array (Option Value)} {ocv110 kVv110 dcv110 pmv110 cdv110 ctv110 : Value} {f_law : Addr} {odv111 anv111 : Option Addr} {slv111 : Array (Option Value)} {ocv111 kVv111 dcv111 pmv111 cdv111 ctv111 : Value}
    (n_Kind : PySem.W.nsIn K mainGlobals "Kind" = some (some (.ref C)))
    (n_WRITES : PySem.W.nsIn K mainGlobals "WRITES" = some (some (.ref aW)))
    (n_INVERTED : PySem.W.nsIn K mainGlobals "INVERTED" = some (some (.ref aI)))
    (n_Effect : PySem.W.nsIn K mainGlobals "Effect" = some (some (.ref CE)))
    (n_SPENT : PySem.W.nsIn K mainGlobals "SPENT" = some (some (.int 2 tS)))
    (n_MOST : PySem.W.nsIn K mainGlobals "MOST_LETTERS" = some (some (.int 40 tM)))
    (n_LETTERS : PySem.W.nsIn K mainGlobals "LETTERS" = some (some (.str "01r" tL)))
    (no_int : PySem.W.nsIn K mainGlobals "int" = some none)
    (no_len : PySem.W.nsIn K mainGlobals "len" = some none)
    (no_abs : PySem.W.nsIn K mainGlobals "abs" = some none)
    (no_list : PySem.W.nsIn K mainGlobals "list" = some none)
    (no_repr : PySem.W.nsIn K mainGlobals "repr" = some none)
    (no_range : PySem.W.nsIn K mainGlobals "range" = some none)
    (no_str : PySem.W.nsIn K mainGlobals "str" = some none)
    (no_isinstance : PySem.W.nsIn K mainGlobals "isinstance" = some none)
    (no_tuple : PySem.W.nsIn K mainGlobals "tuple" = some none)
    (no_sorted : PySem.W.nsIn K mainGlobals "sorted" = some none)
    (no_set : PySem.W.nsIn K mainGlobals "set" = some none)
    (no_enumerate : PySem.W.nsIn K mainGlobals "enumerate" = some none)
    (no_zip : PySem.W.nsIn K mainGlobals "zip" = some none)
    (pg : PySem.W.plainGet K C Str.empty = true)
    (hd : PySem.W.hasDictIn K C = true)
    (po : PySem.W.plainOver K C = true)
    (fd_C_setattr : PySem.W.findIn K (.ref C) "__setattr__" = some (some (.builtin "object.__setattr__")))
    (fd_C_reading : PySem.W.findIn K (.ref C) "reading" = some none)
    (fd_C_writing : PySem.W.findIn K (.ref C) "writing" = some none)
    (fd_C_device : PySem.W.findIn K (.ref C) "device" = some none)
    (fd_C_states : PySem.W.findIn K (.ref C) "states" = some none)
    (fd_C_class : PySem.W.findIn K (.ref C) "__class__" = some (some (.builtin "object.__class__")))
    (fd_C_ne : PySem.W.findIn K (.ref C) "__ne__" = some (some (.builtin "object.__ne__")))
    (isG : PySem.W.specialIn K (.builtin "object.__class__") "__get__" = some (some (.builtin "getset_descriptor.__get__")))
    (isT : PySem.W.takesIn K (.builtin "object.__class__") = some true)
    (isM : PySem.W.mroIn K C (.type "object") = some true)
    (mk : PySem.W.makesIn K C = true)
    (kc : PySem.W.keepIn K (.ref C) = true)
    (mcT : PySem.W.typeIn K (.ref C) = some mc)
    (rdI : PySem.W.readsIn K C mc = true)
    (gaI : PySem.W.specialIn K (.ref C) "__getattribute__" = some (some (.builtin "type.__getattribute__")))
    (v_READINGS : PySem.W.findCls K (.ref C) mc "READINGS" = some (.val (.ref aR)))
    (q_aR : K.lookup aR = some ⟨.type "tuple", ddt1, .seq #[.str "keep" u2, .str "take" u3] nnt1, sst1⟩)
    (v_WRITINGS : PySem.W.findCls K (.ref C) mc "WRITINGS" = some (.val (.ref bW)))
    (q_bW : K.lookup bW = some ⟨.type "tuple", ddt4, .seq #[.str "store" u5, .str "clear1" u6, .str "clear0" u7, .str "set1" u8, .str "flip1" u9, .str "once" u10, .str "none" u11] nnt4, sst4⟩)
    (v_DEVICES : PySem.W.findCls K (.ref C) mc "DEVICES" = some (.val (.ref aD)))
    (q_aD : K.lookup aD = some ⟨.type "tuple", ddt12, .seq #[.str "still" u13, .str "raise" u14, .str "end" u15, .str "drift" u16] nnt12, sst12⟩)
    (lW : K.lookup aW = some ⟨.type "dict", none, .dict esW nW_, #[]⟩)
    (lI : K.lookup aI = some ⟨.type "dict", none, .dict esI nI_, #[]⟩)
    (kW : PySem.W.KeysLit w.params esW.toList)
    (kI : PySem.W.KeysLit w.params esI.toList)
    (g_w_store : PySem.W.nsIn K aW "store" = some (some (.ref w_store)))
    (q_w_store : K.lookup w_store = some ⟨.type "tuple", ddt17, .seq #[.ref w_storea, .ref w_storeb] nnt17, sst17⟩)
    (q_w_storea : K.lookup w_storea = some ⟨.type "tuple", ddt18, .seq #[.int 0 u19, .int 1 u20] nnt18, sst18⟩)
    (q_w_storeb : K.lookup w_storeb = some ⟨.type "tuple", ddt21, .seq #[.int 0 u22, .int 1 u23] nnt21, sst21⟩)
    (g_w_clear1 : PySem.W.nsIn K aW "clear1" = some (some (.ref w_clear1)))
    (q_w_clear1 : K.lookup w_clear1 = some ⟨.type "tuple", ddt24, .seq #[.ref w_clear1a, .ref w_clear1b] nnt24, sst24⟩)
    (q_w_clear1a : K.lookup w_clear1a = some ⟨.type "tuple", ddt25, .seq #[.int 0 u26, .int 0 u27] nnt25, sst25⟩)
    (q_w_clear1b : K.lookup w_clear1b = some ⟨.type "tuple", ddt28, .seq #[.int 1 u29, .int 0 u30] nnt28, sst28⟩)
    (g_w_clear0 : PySem.W.nsIn K aW "clear0" = some (some (.ref w_clear0)))
    (q_w_clear0 : K.lookup w_clear0 = some ⟨.type "tuple", ddt31, .seq #[.ref w_clear0a, .ref w_clear0b] nnt31, sst31⟩)
    (q_w_clear0a : K.lookup w_clear0a = some ⟨.type "tuple", ddt32, .seq #[.int 0 u33, .int 0 u34] nnt32, sst32⟩)
    (q_w_clear0b : K.lookup w_clear0b = some ⟨.type "tuple", ddt35, .seq #[.int 0 u36, .int 1 u37] nnt35, sst35⟩)
    (g_w_set1 : PySem.W.nsIn K aW "set1" = some (some (.ref w_set1)))
    (q_w_set1 : K.lookup w_set1 = some ⟨.type "tuple", ddt38, .seq #[.ref w_set1a, .ref w_set1b] nnt38, sst38⟩)
    (q_w_set1a : K.lookup w_set1a = some ⟨.type "tuple", ddt39, .seq #[.int 0 u40, .int 1 u41] nnt39, sst39⟩)
    (q_w_set1b : K.lookup w_set1b = some ⟨.type "tuple", ddt42, .seq #[.int 1 u43, .int 1 u44] nnt42, sst42⟩)
    (g_w_flip1 : PySem.W.nsIn K aW "flip1" = some (some (.ref w_flip1)))
    (q_w_flip1 : K.lookup w_flip1 = some ⟨.type "tuple", ddt45, .seq #[.ref w_flip1a, .ref w_flip1b] nnt45, sst45⟩)
    (q_w_flip1a : K.lookup w_flip1a = some ⟨.type "tuple", ddt46, .seq #[.int 0 u47, .int 1 u48] nnt46, sst46⟩)
    (q_w_flip1b : K.lookup w_flip1b = some ⟨.type "tuple", ddt49, .seq #[.int 1 u50, .int 0 u51] nnt49, sst49⟩)
    (g_w_once : PySem.W.nsIn K aW "once" = some (some (.ref w_once)))
    (q_w_once : K.lookup w_once = some ⟨.type "tuple", ddt52, .seq #[.ref w_oncea, .ref w_onceb] nnt52, sst52⟩)
    (q_w_oncea : K.lookup w_oncea = some ⟨.type "tuple", ddt53, .seq #[.int 2 u54, .int 3 u55] nnt53, sst53⟩)
    (q_w_onceb : K.lookup w_onceb = some ⟨.type "tuple", ddt56, .seq #[.int 2 u57, .int 3 u58] nnt56, sst56⟩)
    (g_w_none : PySem.W.nsIn K aW "none" = some (some (.ref w_none)))
    (q_w_none : K.lookup w_none = some ⟨.type "tuple", ddt59, .seq #[.ref w_nonea, .ref w_noneb] nnt59, sst59⟩)
    (q_w_nonea : K.lookup w_nonea = some ⟨.type "tuple", ddt60, .seq #[.int 0 u61, .int 0 u62] nnt60, sst60⟩)
    (q_w_noneb : K.lookup w_noneb = some ⟨.type "tuple", ddt63, .seq #[.int 1 u64, .int 1 u65] nnt63, sst63⟩)
    (g_i_still : PySem.W.nsIn K aI "still" = some (some (.ref i_still)))
    (q_i_still : K.lookup i_still = some ⟨.type "tuple", ddt66, .seq #[] nnt66, sst66⟩)
    (g_i_raise : PySem.W.nsIn K aI "raise" = some (some (.ref i_raise)))
    (q_i_raise : K.lookup i_raise = some ⟨.type "tuple", ddt67, .seq #[.int 0 u68] nnt67, sst67⟩)
    (g_i_end : PySem.W.nsIn K aI "end" = some (some (.ref i_end)))
    (q_i_end : K.lookup i_end = some ⟨.type "tuple", ddt69, .seq #[.int 1 u70] nnt69, sst69⟩)
    (g_i_drift : PySem.W.nsIn K aI "drift" = some (some (.ref i_drift)))
    (q_i_drift : K.lookup i_drift = some ⟨.type "tuple", ddt71, .seq #[.int 0 u72, .int 1 u73] nnt71, sst71⟩)
    (a_Kind___init__ : PySem.W.findIn K (.ref C) "__init__" = some (some (.ref m_Kind_init)))
    (i_Kind___init__ : PySem.W.isFn K (.ref m_Kind_init) = true)
    (l_Kind___init__ : K.lookup m_Kind_init = some ⟨ocv74, odv74, .func (PySem.W.fnOf "__init__" "Kind.__init__" (defArgs s_Kind___init__) (defBody s_Kind___init__) (defScope s_Kind___init__) .none kVv74 dcv74 pmv74 anv74 cdv74 ctv74), slv74⟩)
    (c_Kind___init__ : PySem.W.codeIn K cdv74 "Kind.__init__" = true)
    (k_Kind___init__ : PySem.W.keepIn K (.ref m_Kind_init) = true)
    (a_Kind_after_read : PySem.W.findIn K (.ref C) "after_read" = some (some (.ref m_Kind_after_read)))
    (i_Kind_after_read : PySem.W.isFn K (.ref m_Kind_after_read) = true)
    (l_Kind_after_read : K.lookup m_Kind_after_read = some ⟨ocv75, odv75, .func (PySem.W.fnOf "after_read" "Kind.after_read" (defArgs s_Kind_after_read) (defBody s_Kind_after_read) (defScope s_Kind_after_read) .none kVv75 dcv75 pmv75 anv75 cdv75 ctv75), slv75⟩)
    (c_Kind_after_read : PySem.W.codeIn K cdv75 "Kind.after_read" = true)
    (k_Kind_after_read : PySem.W.keepIn K (.ref m_Kind_after_read) = true)
    (a_Kind_after_write : PySem.W.findIn K (.ref C) "after_write" = some (some (.ref m_Kind_after_write)))
    (i_Kind_after_write : PySem.W.isFn K (.ref m_Kind_after_write) = true)
    (l_Kind_after_write : K.lookup m_Kind_after_write = some ⟨ocv76, odv76, .func (PySem.W.fnOf "after_write" "Kind.after_write" (defArgs s_Kind_after_write) (defBody s_Kind_after_write) (defScope s_Kind_after_write) .none kVv76 dcv76 pmv76 anv76 cdv76 ctv76), slv76⟩)
    (c_Kind_after_write : PySem.W.codeIn K cdv76 "Kind.after_write" = true)
    (k_Kind_after_write : PySem.W.keepIn K (.ref m_Kind_after_write) = true)
    (a_Kind_unguarded : PySem.W.findIn K (.ref C) "unguarded" = some (some (.ref m_Kind_unguarded)))
    (i_Kind_unguarded : PySem.W.isFn K (.ref m_Kind_unguarded) = true)
    (l_Kind_unguarded : K.lookup m_Kind_unguarded = some ⟨ocv77, odv77, .func (PySem.W.fnOf "unguarded" "Kind.unguarded" (defArgs s_Kind_unguarded) (defBody s_Kind_unguarded) (defScope s_Kind_unguarded) .none kVv77 dcv77 pmv77 anv77 cdv77 ctv77), slv77⟩)
    (c_Kind_unguarded : PySem.W.codeIn K cdv77 "Kind.unguarded" = true)
    (k_Kind_unguarded : PySem.W.keepIn K (.ref m_Kind_unguarded) = true)
    (a_Kind_deeds : PySem.W.findIn K (.ref C) "deeds" = some (some (.ref m_Kind_deeds)))
    (i_Kind_deeds : PySem.W.isFn K (.ref m_Kind_deeds) = true)
    (l_Kind_deeds : K.lookup m_Kind_deeds = some ⟨ocv78, odv78, .func (PySem.W.fnOf "deeds" "Kind.deeds" (defArgs s_Kind_deeds) (defBody s_Kind_deeds) (defScope s_Kind_deeds) .none kVv78 dcv78 pmv78 anv78 cdv78 ctv78), slv78⟩)
    (c_Kind_deeds : PySem.W.codeIn K cdv78 "Kind.deeds" = true)
    (k_Kind_deeds : PySem.W.keepIn K (.ref m_Kind_deeds) = true)
    (a_Kind___eq__ : PySem.W.findIn K (.ref C) "__eq__" = some (some (.ref m_Kind_eq)))
    (i_Kind___eq__ : PySem.W.isFn K (.ref m_Kind_eq) = true)
    (l_Kind___eq__ : K.lookup m_Kind_eq = some ⟨ocv79, odv79, .func (PySem.W.fnOf "__eq__" "Kind.__eq__" (defArgs s_Kind___eq__) (defBody s_Kind___eq__) (defScope s_Kind___eq__) .none kVv79 dcv79 pmv79 anv79 cdv79 ctv79), slv79⟩)
    (c_Kind___eq__ : PySem.W.codeIn K cdv79 "Kind.__eq__" = true)
    (k_Kind___eq__ : PySem.W.keepIn K (.ref m_Kind_eq) = true)
    (pgE : PySem.W.plainGet K CE Str.empty = true)
    (hdE : PySem.W.hasDictIn K CE = true)
    (poE : PySem.W.plainOver K CE = true)
    (fd_CE_setattr : PySem.W.findIn K (.ref CE) "__setattr__" = some (some (.builtin "object.__setattr__")))
    (fd_CE_kind : PySem.W.findIn K (.ref CE) "kind" = some none)
    (fd_CE_ends : PySem.W.findIn K (.ref CE) "ends" = some none)
    (fd_CE_class : PySem.W.findIn K (.ref CE) "__class__" = some (some (.builtin "object.__class__")))
    (fd_CE_ne : PySem.W.findIn K (.ref CE) "__ne__" = some (some (.builtin "object.__ne__")))
    (isME : PySem.W.mroIn K CE (.type "object") = some true)
    (mkE : PySem.W.makesIn K CE = true)
    (kcE : PySem.W.keepIn K (.ref CE) = true)
    (mcET : PySem.W.typeIn K (.ref CE) = some mcE)
    (rdE : PySem.W.readsIn K CE mcE = true)
    (gaE : PySem.W.specialIn K (.ref CE) "__getattribute__" = some (some (.builtin "type.__getattribute__")))
    (a_Effect___init__ : PySem.W.findIn K (.ref CE) "__init__" = some (some (.ref m_Effect_init)))
    (i_Effect___init__ : PySem.W.isFn K (.ref m_Effect_init) = true)
    (l_Effect___init__ : K.lookup m_Effect_init = some ⟨ocv80, odv80, .func (PySem.W.fnOf "__init__" "Effect.__init__" (defArgs s_Effect___init__) (defBody s_Effect___init__) (defScope s_Effect___init__) .none kVv80 dcv80 pmv80 anv80 cdv80 ctv80), slv80⟩)
    (c_Effect___init__ : PySem.W.codeIn K cdv80 "Effect.__init__" = true)
    (k_Effect___init__ : PySem.W.keepIn K (.ref m_Effect_init) = true)
    (a_Effect___call__ : PySem.W.findIn K (.ref CE) "__call__" = some (some (.ref m_Effect_call)))
    (i_Effect___call__ : PySem.W.isFn K (.ref m_Effect_call) = true)
    (l_Effect___call__ : K.lookup m_Effect_call = some ⟨ocv81, odv81, .func (PySem.W.fnOf "__call__" "Effect.__call__" (defArgs s_Effect___call__) (defBody s_Effect___call__) (defScope s_Effect___call__) .none kVv81 dcv81 pmv81 anv81 cdv81 ctv81), slv81⟩)
    (c_Effect___call__ : PySem.W.codeIn K cdv81 "Effect.__call__" = true)
    (k_Effect___call__ : PySem.W.keepIn K (.ref m_Effect_call) = true)
    (a_Effect___eq__ : PySem.W.findIn K (.ref CE) "__eq__" = some (some (.ref m_Effect_eq)))
    (i_Effect___eq__ : PySem.W.isFn K (.ref m_Effect_eq) = true)
    (l_Effect___eq__ : K.lookup m_Effect_eq = some ⟨ocv82, odv82, .func (PySem.W.fnOf "__eq__" "Effect.__eq__" (defArgs s_Effect___eq__) (defBody s_Effect___eq__) (defScope s_Effect___eq__) .none kVv82 dcv82 pmv82 anv82 cdv82 ctv82), slv82⟩)
    (c_Effect___eq__ : PySem.W.codeIn K cdv82 "Effect.__eq__" = true)
    (k_Effect___eq__ : PySem.W.keepIn K (.ref m_Effect_eq) = true)
    (a_Effect___mul__ : PySem.W.findIn K (.ref CE) "__mul__" = some (some (.ref m_Effect_mul)))
    (i_Effect___mul__ : PySem.W.isFn K (.ref m_Effect_mul) = true)
    (l_Effect___mul__ : K.lookup m_Effect_mul = some ⟨ocv83, odv83, .func (PySem.W.fnOf "__mul__" "Effect.__mul__" (defArgs s_Effect___mul__) (defBody s_Effect___mul__) (defScope s_Effect___mul__) .none kVv83 dcv83 pmv83 anv83 cdv83 ctv83), slv83⟩)
    (c_Effect___mul__ : PySem.W.codeIn K cdv83 "Effect.__mul__" = true)
    (k_Effect___mul__ : PySem.W.keepIn K (.ref m_Effect_mul) = true)
    (fnEC : PySem.W.fnIn K m_Effect_call = true)
    (fcOF : PySem.W.findCls K (.ref CE) mcE "of" = some (.get (.builtin "classmethod.__get__") (.ref pOF) .none (.ref CE)))
    (lpOF : K.lookup pOF = some ⟨.type "classmethod", ddOF, .fields vsOF, ssOF⟩)
    (vOF : vsOF.toList = .ref gOF :: rsOF)
    (l_OF : K.lookup gOF = some ⟨ocOF, odOF, .func (PySem.W.fnOf "of" "Effect.of" (defArgs s_Effect_of) (defBody s_Effect_of) (defScope s_Effect_of) .none (.ref kdOF) dcOF pmOF anOF cdOF ctOF), slOF⟩)
    (c_OF : PySem.W.codeIn K cdOF "Effect.of" = true)
    (k_OF : PySem.W.keepIn K (.ref gOF) = true)
    (fnOF : PySem.W.fnIn K gOF = true)
    (nkOF : PySem.W.nsIn K kdOF "quiet" = some (some (.bool false)))
    (no_bool : PySem.W.nsIn K mainGlobals "bool" = some none)
    (no_super : PySem.W.nsIn K mainGlobals "super" = some none)
    (sfE : PySem.W.selfFirst K CE = true)
    (n_KindBit : PySem.W.nsIn K mainGlobals "KindBit" = some (some (.ref KB)))
    (neKB : (KB == C) = false)
    (pgB : PySem.W.plainGet K KB Str.empty = true)
    (hdB : PySem.W.hasDictIn K KB = true)
    (poB : PySem.W.plainOver K KB = true)
    (fd_KB_setattr : PySem.W.findIn K (.ref KB) "__setattr__" = some (some (.builtin "object.__setattr__")))
    (fd_KB_state : PySem.W.findIn K (.ref KB) "_state" = some none)
    (fd_KB_kind : PySem.W.findIn K (.ref KB) "kind" = some none)
    (mkB : PySem.W.makesIn K KB = true)
    (kcB : PySem.W.keepIn K (.ref KB) = true)
    (inB : PySem.W.findIn K (.ref KB) "__init__" = some (some (.ref fkI)))
    (a_KindBit_read : PySem.W.findIn K (.ref KB) "read" = some (some (.ref m_KindBit_read)))
    (i_KindBit_read : PySem.W.isFn K (.ref m_KindBit_read) = true)
    (l_KindBit_read : K.lookup m_KindBit_read = some ⟨ocv84, odv84, .func (PySem.W.fnOf "read" "KindBit.read" (defArgs s_KindBit_read) (defBody s_KindBit_read) (defScope s_KindBit_read) .none kVv84 dcv84 pmv84 anv84 cdv84 ctv84), slv84⟩)
    (c_KindBit_read : PySem.W.codeIn K cdv84 "KindBit.read" = true)
    (k_KindBit_read : PySem.W.keepIn K (.ref m_KindBit_read) = true)
    (a_KindBit_write : PySem.W.findIn K (.ref KB) "write" = some (some (.ref m_KindBit_write)))
    (i_KindBit_write : PySem.W.isFn K (.ref m_KindBit_write) = true)
    (l_KindBit_write : K.lookup m_KindBit_write = some ⟨ocv85, odv85, .func (PySem.W.fnOf "write" "KindBit.write" (defArgs s_KindBit_write) (defBody s_KindBit_write) (defScope s_KindBit_write) .none kVv85 dcv85 pmv85 anv85 cdv85 ctv85), slv85⟩)
    (c_KindBit_write : PySem.W.codeIn K cdv85 "KindBit.write" = true)
    (k_KindBit_write : PySem.W.keepIn K (.ref m_KindBit_write) = true)
    (a_KindBit_deed : PySem.W.findIn K (.ref KB) "deed" = some (some (.ref m_KindBit_deed)))
    (i_KindBit_deed : PySem.W.isFn K (.ref m_KindBit_deed) = true)
    (l_KindBit_deed : K.lookup m_KindBit_deed = some ⟨ocv86, odv86, .func (PySem.W.fnOf "deed" "KindBit.deed" (defArgs s_KindBit_deed) (defBody s_KindBit_deed) (defScope s_KindBit_deed) .none kVv86 dcv86 pmv86 anv86 cdv86 ctv86), slv86⟩)
    (c_KindBit_deed : PySem.W.codeIn K cdv86 "KindBit.deed" = true)
    (k_KindBit_deed : PySem.W.keepIn K (.ref m_KindBit_deed) = true)
    (nwB : PySem.W.findIn K (.ref KB) "now" = some (some (.ref pN)))
    (stB : PySem.W.findIn K (.ref KB) "state" = some (some (.ref pS)))
    (l_kI : K.lookup fkI = some ⟨ockI, odkI, .func (PySem.W.ksFn "__init__" "KindBit.__init__" (defArgs s_KindBit___init__) (defBody s_KindBit___init__) (defScope s_KindBit___init__) (.ref TDkI) kVkI dckI pmkI ankI (.ref cdakI) ctkI cckI), slkI⟩)
    (c_kI : PySem.W.codeIn K (.ref cdakI) "KindBit.__init__" = true)
    (lCkI : K.lookup cdakI = some ⟨cclkI, cddkI, .fields vskI, ccskI⟩)
    (vkI : vskI[2]? = some (.str filekI tfkI))
    (flkI : ((l.prog.main.file : Str) == filekI) = true)
    (lcckI : K.lookup cckI = some ⟨ccvkI, cldkI, .cell (some (.ref KB)), cslkI⟩)
    (clkI : PySem.W.clsIn K KB = some cdkI)
    (i_kI : PySem.W.isFn K (.ref fkI) = true)
    (k_kI : PySem.W.keepIn K (.ref fkI) = true)
    (n_Bit : PySem.W.nsIn K mainGlobals "Bit" = some (some (.ref BB)))
    (inBB : PySem.W.findIn K (.ref BB) "__init__" = some (some (.ref fbI)))
    (uiB : PySem.W.mroIn K KB (.ref KB) = some true)
    (upB : PySem.W.ks_superIn K KB KB "__init__" = some (some (.ref fbI)))
    (l_bI : K.lookup fbI = some ⟨ocbI, odbI, .func (PySem.W.fnOf "__init__" "Bit.__init__" (defArgs s_Bit___init__) (defBody s_Bit___init__) (defScope s_Bit___init__) (.ref TDbI) kVbI dcbI pmbI anbI cdbI ctbI), slbI⟩)
    (c_bI : PySem.W.codeIn K cdbI "Bit.__init__" = true)
    (k_bI : PySem.W.keepIn K (.ref fbI) = true)
    (i_bI : PySem.W.isFn K (.ref fbI) = true)
    (n_bI : PySem.W.fnIn K fbI = true)
    (lTbI : K.lookup TDbI = some ⟨oTbI, dTbI, .seq #[.int 0 tubI] nTbI, sTbI⟩)
    (lTkI : K.lookup TDkI = some ⟨oTkI, dTkI, .seq #[.int 0 tukI] nTkI, sTkI⟩)
    (lN : K.lookup pN = some ⟨.type "property", ddN, .fields vsN, ssN⟩)
    (vN : vsN.toList = .ref gN :: rsN)
    (spN : PySem.W.specialIn K (.ref pN) "__get__" = some (some (.builtin "property.__get__")))
    (tkN : PySem.W.takesIn K (.ref pN) = some true)
    (l_N : K.lookup gN = some ⟨ocv87, odv87, .func (PySem.W.fnOf "now" "Bit.now" (defArgs s_Bit_now) (defBody s_Bit_now) (defScope s_Bit_now) .none kVv87 dcv87 pmv87 anv87 cdv87 ctv87), slv87⟩)
    (c_N : PySem.W.codeIn K cdv87 "Bit.now" = true)
    (k_N : PySem.W.keepIn K (.ref gN) = true)
    (lS : K.lookup pS = some ⟨.type "property", ddS, .fields vsS, ssS⟩)
    (vS : vsS.toList = .ref gS :: rsS)
    (spS : PySem.W.specialIn K (.ref pS) "__get__" = some (some (.builtin "property.__get__")))
    (tkS : PySem.W.takesIn K (.ref pS) = some true)
    (l_S : K.lookup gS = some ⟨ocv88, odv88, .func (PySem.W.fnOf "state" "Bit.state" (defArgs s_Bit_state) (defBody s_Bit_state) (defScope s_Bit_state) .none kVv88 dcv88 pmv88 anv88 cdv88 ctv88), slv88⟩)
    (c_S : PySem.W.codeIn K cdv88 "Bit.state" = true)
    (k_S : PySem.W.keepIn K (.ref gS) = true)
    (opq : PySem.W.nsIn K cStatics "thirdparty.any" = some none)
    (topE : (l.prog.main.scope.names.lookup ("super" : Str)).isSome = false)
    (n_check_letters : PySem.W.nsIn K mainGlobals "check_letters" = some (some (.ref f_check_letters)))
    (l_check_letters : K.lookup f_check_letters = some ⟨ocv89, odv89, .func (PySem.W.fnOf "check_letters" "check_letters" (defArgs s_check_letters) (defBody s_check_letters) (defScope s_check_letters) .none kVv89 dcv89 pmv89 anv89 cdv89 ctv89), slv89⟩)
    (c_check_letters : PySem.W.codeIn K cdv89 "check_letters" = true)
    (k_check_letters : PySem.W.keepIn K (.ref f_check_letters) = true)
    (n_check_same_kind : PySem.W.nsIn K mainGlobals "check_same_kind" = some (some (.ref f_check_same_kind)))
    (l_check_same_kind : K.lookup f_check_same_kind = some ⟨ocv90, odv90, .func (PySem.W.fnOf "check_same_kind" "check_same_kind" (defArgs s_check_same_kind) (defBody s_check_same_kind) (defScope s_check_same_kind) .none kVv90 dcv90 pmv90 anv90 cdv90 ctv90), slv90⟩)
    (c_check_same_kind : PySem.W.codeIn K cdv90 "check_same_kind" = true)
    (k_check_same_kind : PySem.W.keepIn K (.ref f_check_same_kind) = true)
    (n_ends_without_letters : PySem.W.nsIn K mainGlobals "ends_without_letters" = some (some (.ref f_ends_without_letters)))
    (l_ends_without_letters : K.lookup f_ends_without_letters = some ⟨ocv91, odv91, .func (PySem.W.fnOf "ends_without_letters" "ends_without_letters" (defArgs s_ends_without_letters) (defBody s_ends_without_letters) (defScope s_ends_without_letters) .none kVv91 dcv91 pmv91 anv91 cdv91 ctv91), slv91⟩)
    (c_ends_without_letters : PySem.W.codeIn K cdv91 "ends_without_letters" = true)
    (k_ends_without_letters : PySem.W.keepIn K (.ref f_ends_without_letters) = true)
    (n_ends_of_letter : PySem.W.nsIn K mainGlobals "ends_of_letter" = some (some (.ref f_ends_of_letter)))
    (l_ends_of_letter : K.lookup f_ends_of_letter = some ⟨ocv92, odv92, .func (PySem.W.fnOf "ends_of_letter" "ends_of_letter" (defArgs s_ends_of_letter) (defBody s_ends_of_letter) (defScope s_ends_of_letter) .none kVv92 dcv92 pmv92 anv92 cdv92 ctv92), slv92⟩)
    (c_ends_of_letter : PySem.W.codeIn K cdv92 "ends_of_letter" = true)
    (k_ends_of_letter : PySem.W.keepIn K (.ref f_ends_of_letter) = true)
    (n_joined : PySem.W.nsIn K mainGlobals "joined" = some (some (.ref f_joined)))
    (l_joined : K.lookup f_joined = some ⟨ocv93, odv93, .func (PySem.W.fnOf "joined" "joined" (defArgs s_joined) (defBody s_joined) (defScope s_joined) .none kVv93 dcv93 pmv93 anv93 cdv93 ctv93), slv93⟩)
    (c_joined : PySem.W.codeIn K cdv93 "joined" = true)
    (k_joined : PySem.W.keepIn K (.ref f_joined) = true)
    (n_is_int : PySem.W.nsIn K mainGlobals "is_int" = some (some (.ref f_is_int)))
    (l_is_int : K.lookup f_is_int = some ⟨ocv94, odv94, .func (PySem.W.fnOf "is_int" "is_int" (defArgs s_is_int) (defBody s_is_int) (defScope s_is_int) .none kVv94 dcv94 pmv94 anv94 cdv94 ctv94), slv94⟩)
    (c_is_int : PySem.W.codeIn K cdv94 "is_int" = true)
    (k_is_int : PySem.W.keepIn K (.ref f_is_int) = true)
    (n_full_word : PySem.W.nsIn K mainGlobals "full_word" = some (some (.ref f_full_word)))
    (l_full_word : K.lookup f_full_word = some ⟨ocv95, odv95, .func (PySem.W.fnOf "full_word" "full_word" (defArgs s_full_word) (defBody s_full_word) (defScope s_full_word) .none kVv95 dcv95 pmv95 anv95 cdv95 ctv95), slv95⟩)
    (c_full_word : PySem.W.codeIn K cdv95 "full_word" = true)
    (k_full_word : PySem.W.keepIn K (.ref f_full_word) = true)
    (n_is_word : PySem.W.nsIn K mainGlobals "is_word" = some (some (.ref f_is_word)))
    (l_is_word : K.lookup f_is_word = some ⟨ocv96, odv96, .func (PySem.W.fnOf "is_word" "is_word" (defArgs s_is_word) (defBody s_is_word) (defScope s_is_word) .none kVv96 dcv96 pmv96 anv96 cdv96 ctv96), slv96⟩)
    (c_is_word : PySem.W.codeIn K cdv96 "is_word" = true)
    (k_is_word : PySem.W.keepIn K (.ref f_is_word) = true)
    (n_check_word : PySem.W.nsIn K mainGlobals "check_word" = some (some (.ref f_check_word)))
    (l_check_word : K.lookup f_check_word = some ⟨ocv97, odv97, .func (PySem.W.fnOf "check_word" "check_word" (defArgs s_check_word) (defBody s_check_word) (defScope s_check_word) .none kVv97 dcv97 pmv97 anv97 cdv97 ctv97), slv97⟩)
    (c_check_word : PySem.W.codeIn K cdv97 "check_word" = true)
    (k_check_word : PySem.W.keepIn K (.ref f_check_word) = true)
    (n__law_pen : PySem.W.nsIn K mainGlobals "_law_pen" = some (some (.ref f__law_pen)))
    (l__law_pen : K.lookup f__law_pen = some ⟨ocv98, odv98, .func (PySem.W.fnOf "_law_pen" "_law_pen" (defArgs s__law_pen) (defBody s__law_pen) (defScope s__law_pen) .none kVv98 dcv98 pmv98 anv98 cdv98 ctv98), slv98⟩)
    (c__law_pen : PySem.W.codeIn K cdv98 "_law_pen" = true)
    (k__law_pen : PySem.W.keepIn K (.ref f__law_pen) = true)
    (n__law_draw : PySem.W.nsIn K mainGlobals "_law_draw" = some (some (.ref f__law_draw)))
    (l__law_draw : K.lookup f__law_draw = some ⟨ocv99, odv99, .func (PySem.W.fnOf "_law_draw" "_law_draw" (defArgs s__law_draw) (defBody s__law_draw) (defScope s__law_draw) .none kVv99 dcv99 pmv99 anv99 cdv99 ctv99), slv99⟩)
    (c__law_draw : PySem.W.codeIn K cdv99 "_law_draw" = true)
    (k__law_draw : PySem.W.keepIn K (.ref f__law_draw) = true)
    (n__law_write : PySem.W.nsIn K mainGlobals "_law_write" = some (some (.ref f__law_write)))
    (l__law_write : K.lookup f__law_write = some ⟨ocv100, odv100, .func (PySem.W.fnOf "_law_write" "_law_write" (defArgs s__law_write) (defBody s__law_write) (defScope s__law_write) .none kVv100 dcv100 pmv100 anv100 cdv100 ctv100), slv100⟩)
    (c__law_write : PySem.W.codeIn K cdv100 "_law_write" = true)
    (k__law_write : PySem.W.keepIn K (.ref f__law_write) = true)
    (n__law_read : PySem.W.nsIn K mainGlobals "_law_read" = some (some (.ref f__law_read)))
    (l__law_read : K.lookup f__law_read = some ⟨ocv101, odv101, .func (PySem.W.fnOf "_law_read" "_law_read" (defArgs s__law_read) (defBody s__law_read) (defScope s__law_read) .none kVv101 dcv101 pmv101 anv101 cdv101 ctv101), slv101⟩)
    (c__law_read : PySem.W.codeIn K cdv101 "_law_read" = true)
    (k__law_read : PySem.W.keepIn K (.ref f__law_read) = true)
    (n__law_deeds : PySem.W.nsIn K mainGlobals "_law_deeds" = some (some (.ref f__law_deeds)))
    (l__law_deeds : K.lookup f__law_deeds = some ⟨ocv102, odv102, .func (PySem.W.fnOf "_law_deeds" "_law_deeds" (defArgs s__law_deeds) (defBody s__law_deeds) (defScope s__law_deeds) .none kVv102 dcv102 pmv102 anv102 cdv102 ctv102), slv102⟩)
    (c__law_deeds : PySem.W.codeIn K cdv102 "_law_deeds" = true)
    (k__law_deeds : PySem.W.keepIn K (.ref f__law_deeds) = true)
    (n__law_words : PySem.W.nsIn K mainGlobals "_law_words" = some (some (.ref f__law_words)))
    (l__law_words : K.lookup f__law_words = some ⟨ocv103, odv103, .func (PySem.W.fnOf "_law_words" "_law_words" (defArgs s__law_words) (defBody s__law_words) (defScope s__law_words) .none kVv103 dcv103 pmv103 anv103 cdv103 ctv103), slv103⟩)
    (c__law_words : PySem.W.codeIn K cdv103 "_law_words" = true)
    (k__law_words : PySem.W.keepIn K (.ref f__law_words) = true)
    (n__law_states : PySem.W.nsIn K mainGlobals "_law_states" = some (some (.ref f__law_states)))
    (l__law_states : K.lookup f__law_states = some ⟨ocv104, odv104, .func (PySem.W.fnOf "_law_states" "_law_states" (defArgs s__law_states) (defBody s__law_states) (defScope s__law_states) .none kVv104 dcv104 pmv104 anv104 cdv104 ctv104), slv104⟩)
    (c__law_states : PySem.W.codeIn K cdv104 "_law_states" = true)
    (k__law_states : PySem.W.keepIn K (.ref f__law_states) = true)
    (n__law_letters : PySem.W.nsIn K mainGlobals "_law_letters" = some (some (.ref f__law_letters)))
    (l__law_letters : K.lookup f__law_letters = some ⟨ocv105, odv105, .func (PySem.W.fnOf "_law_letters" "_law_letters" (defArgs s__law_letters) (defBody s__law_letters) (defScope s__law_letters) .none kVv105 dcv105 pmv105 anv105 cdv105 ctv105), slv105⟩)
    (c__law_letters : PySem.W.codeIn K cdv105 "_law_letters" = true)
    (k__law_letters : PySem.W.keepIn K (.ref f__law_letters) = true)
    (n__law_set_up : PySem.W.nsIn K mainGlobals "_law_set_up" = some (some (.ref f__law_set_up)))
    (l__law_set_up : K.lookup f__law_set_up = some ⟨ocv106, odv106, .func (PySem.W.fnOf "_law_set_up" "_law_set_up" (defArgs s__law_set_up) (defBody s__law_set_up) (defScope s__law_set_up) .none kVv106 dcv106 pmv106 anv106 cdv106 ctv106), slv106⟩)
    (c__law_set_up : PySem.W.codeIn K cdv106 "_law_set_up" = true)
    (k__law_set_up : PySem.W.keepIn K (.ref f__law_set_up) = true)
    (n__law_led : PySem.W.nsIn K mainGlobals "_law_led" = some (some (.ref f__law_led)))
    (l__law_led : K.lookup f__law_led = some ⟨ocv107, odv107, .func (PySem.W.fnOf "_law_led" "_law_led" (defArgs s__law_led) (defBody s__law_led) (defScope s__law_led) .none kVv107 dcv107 pmv107 anv107 cdv107 ctv107), slv107⟩)
    (c__law_led : PySem.W.codeIn K cdv107 "_law_led" = true)
    (k__law_led : PySem.W.keepIn K (.ref f__law_led) = true)
    (n__law_way : PySem.W.nsIn K mainGlobals "_law_way" = some (some (.ref f__law_way)))
    (l__law_way : K.lookup f__law_way = some ⟨ocv108, odv108, .func (PySem.W.fnOf "_law_way" "_law_way" (defArgs s__law_way) (defBody s__law_way) (defScope s__law_way) .none kVv108 dcv108 pmv108 anv108 cdv108 ctv108), slv108⟩)
    (c__law_way : PySem.W.codeIn K cdv108 "_law_way" = true)
    (k__law_way : PySem.W.keepIn K (.ref f__law_way) = true)
    (n__law_letter : PySem.W.nsIn K mainGlobals "_law_letter" = some (some (.ref f__law_letter)))
    (l__law_letter : K.lookup f__law_letter = some ⟨ocv109, odv109, .func (PySem.W.fnOf "_law_letter" "_law_letter" (defArgs s__law_letter) (defBody s__law_letter) (defScope s__law_letter) .none kVv109 dcv109 pmv109 anv109 cdv109 ctv109), slv109⟩)
    (c__law_letter : PySem.W.codeIn K cdv109 "_law_letter" = true)
    (k__law_letter : PySem.W.keepIn K (.ref f__law_letter) = true)
    (n__law_kind_right : PySem.W.nsIn K mainGlobals "_law_kind_right" = some (some (.ref f__law_kind_right)))
    (l__law_kind_right : K.lookup f__law_kind_right = some ⟨ocv110, odv110, .func (PySem.W.fnOf "_law_kind_right" "_law_kind_right" (defArgs s__law_kind_right) (defBody s__law_kind_right) (defScope s__law_kind_right) .none kVv110 dcv110 pmv110 anv110 cdv110 ctv110), slv110⟩)
    (c__law_kind_right : PySem.W.codeIn K cdv110 "_law_kind_right" = true)
    (k__law_kind_right : PySem.W.keepIn K (.ref f__law_kind_right) = true)
    (n_law : PySem.W.nsIn K mainGlobals "law" = some (some (.ref f_law)))
    (l_law : K.lookup f_law = some ⟨ocv111, odv111, .func (PySem.W.fnOf "law" "law" (defArgs s_law) (defBody s_law) (defScope s_law) .none kVv111 dcv111 pmv111 anv111 cdv111 ctv111), slv111⟩)
    (c_law : PySem.W.codeIn K cdv111 "law" = true)
    (k_law : PySem.W.keepIn K (.ref f_law) = true) :
    ∃ fd : FuncData, (∀ (s : Shared) (u : Value), BindsTo s fd ⟨[u], []⟩ [("_law_script", u)]) ∧
      ∀ base : Heap, K.In base → base.Ns mainGlobals mg → Gd l.prog w K mg base CX0 10 fa fd ["_law_script"] (spLaw K) := by
  have e := hfa.symm.trans (PySem.W.mg_of X G n_law)
  cases e
  have B : Law.B1 mg := ⟨PySem.W.mg_none_of X G no_int, PySem.W.mg_none_of X G no_len, PySem.W.mg_none_of X G no_abs, PySem.W.mg_none_of X G no_list, PySem.W.mg_none_of X G no_repr, PySem.W.mg_none_of X G no_range, PySem.W.mg_none_of X G no_str, PySem.W.mg_none_of X G no_isinstance, PySem.W.mg_none_of X G no_tuple, PySem.W.mg_none_of X G no_sorted, PySem.W.mg_none_of X G no_set, PySem.W.mg_none_of X G no_enumerate, PySem.W.mg_none_of X G no_zip⟩
  have T : KT K w mg C aW aI mc := {
    g_Kind := PySem.W.mg_of X G n_Kind
    g_SPENT := ⟨_, PySem.W.mg_of X G n_SPENT⟩
    g_WRITES := PySem.W.mg_of X G n_WRITES
    g_INVERTED := PySem.W.mg_of X G n_INVERTED
    g_isinstance := PySem.W.mg_none_of X G no_isinstance
    cl := ⟨pg, hd, po, fd_C_setattr⟩
    nR := fd_C_reading
    nW := fd_C_writing
    nD := fd_C_device
    nS := fd_C_states
    rd := ⟨rdI, gaI⟩
    cR := ⟨aR, ⟨v_READINGS, rfl⟩, ktup q_aR rfl (.cons ⟨_, rfl⟩ (.cons ⟨_, rfl⟩ (.nil)))⟩
    cW := ⟨bW, ⟨v_WRITINGS, rfl⟩, ktup q_bW rfl (.cons ⟨_, rfl⟩ (.cons ⟨_, rfl⟩ (.cons ⟨_, rfl⟩ (.cons ⟨_, rfl⟩ (.cons ⟨_, rfl⟩ (.cons ⟨_, rfl⟩ (.cons ⟨_, rfl⟩ (.nil))))))))⟩
    cD := ⟨aD, ⟨v_DEVICES, rfl⟩, ktup q_aD rfl (.cons ⟨_, rfl⟩ (.cons ⟨_, rfl⟩ (.cons ⟨_, rfl⟩ (.cons ⟨_, rfl⟩ (.nil)))))⟩
    tW := fun x hx => by
      simp only [WR, List.mem_cons, List.not_mem_nil, or_false] at hx
      rcases hx with rfl | rfl | rfl | rfl | rfl | rfl | rfl
      · exact ⟨w_store, w_storea, w_storeb, ⟨esW, nW_, _, lW, kW, g_w_store, rfl⟩, ktup q_w_store rfl (.cons rfl (.cons rfl .nil)), ktup q_w_storea rfl (.cons ⟨_, rfl⟩ (.cons ⟨_, rfl⟩ .nil)), ktup q_w_storeb rfl (.cons ⟨_, rfl⟩ (.cons ⟨_, rfl⟩ .nil))⟩
      · exact ⟨w_clear1, w_clear1a, w_clear1b, ⟨esW, nW_, _, lW, kW, g_w_clear1, rfl⟩, ktup q_w_clear1 rfl (.cons rfl (.cons rfl .nil)), ktup q_w_clear1a rfl (.cons ⟨_, rfl⟩ (.cons ⟨_, rfl⟩ .nil)), ktup q_w_clear1b rfl (.cons ⟨_, rfl⟩ (.cons ⟨_, rfl⟩ .nil))⟩
      · exact ⟨w_clear0, w_clear0a, w_clear0b, ⟨esW, nW_, _, lW, kW, g_w_clear0, rfl⟩, ktup q_w_clear0 rfl (.cons rfl (.cons rfl .nil)), ktup q_w_clear0a rfl (.cons ⟨_, rfl⟩ (.cons ⟨_, rfl⟩ .nil)), ktup q_w_clear0b rfl (.cons ⟨_, rfl⟩ (.cons ⟨_, rfl⟩ .nil))⟩
      · exact ⟨w_set1, w_set1a, w_set1b, ⟨esW, nW_, _, lW, kW, g_w_set1, rfl⟩, ktup q_w_set1 rfl (.cons rfl (.cons rfl .nil)), ktup q_w_set1a rfl (.cons ⟨_, rfl⟩ (.cons ⟨_, rfl⟩ .nil)), ktup q_w_set1b rfl (.cons ⟨_, rfl⟩ (.cons ⟨_, rfl⟩ .nil))⟩
      · exact ⟨w_flip1, w_flip1a, w_flip1b, ⟨esW, nW_, _, lW, kW, g_w_flip1, rfl⟩, ktup q_w_flip1 rfl (.cons rfl (.cons rfl .nil)), ktup q_w_flip1a rfl (.cons ⟨_, rfl⟩ (.cons ⟨_, rfl⟩ .nil)), ktup q_w_flip1b rfl (.cons ⟨_, rfl⟩ (.cons ⟨_, rfl⟩ .nil))⟩
      · exact ⟨w_once, w_oncea, w_onceb, ⟨esW, nW_, _, lW, kW, g_w_once, rfl⟩, ktup q_w_once rfl (.cons rfl (.cons rfl .nil)), ktup q_w_oncea rfl (.cons ⟨_, rfl⟩ (.cons ⟨_, rfl⟩ .nil)), ktup q_w_onceb rfl (.cons ⟨_, rfl⟩ (.cons ⟨_, rfl⟩ .nil))⟩
      · exact ⟨w_none, w_nonea, w_noneb, ⟨esW, nW_, _, lW, kW, g_w_none, rfl⟩, ktup q_w_none rfl (.cons rfl (.cons rfl .nil)), ktup q_w_nonea rfl (.cons ⟨_, rfl⟩ (.cons ⟨_, rfl⟩ .nil)), ktup q_w_noneb rfl (.cons ⟨_, rfl⟩ (.cons ⟨_, rfl⟩ .nil))⟩
    tI := fun x hx => by
      simp only [DV, List.mem_cons, List.not_mem_nil, or_false] at hx
      rcases hx with rfl | rfl | rfl | rfl
      · exact ⟨i_still, ⟨esI, nI_, _, lI, kI, g_i_still, rfl⟩, ktup q_i_still rfl (.nil)⟩
      · exact ⟨i_raise, ⟨esI, nI_, _, lI, kI, g_i_raise, rfl⟩, ktup q_i_raise rfl (.cons ⟨_, rfl⟩ (.nil))⟩
      · exact ⟨i_end, ⟨esI, nI_, _, lI, kI, g_i_end, rfl⟩, ktup q_i_end rfl (.cons ⟨_, rfl⟩ (.nil))⟩
      · exact ⟨i_drift, ⟨esI, nI_, _, lI, kI, g_i_drift, rfl⟩, ktup q_i_drift rfl (.cons ⟨_, rfl⟩ (.cons ⟨_, rfl⟩ (.nil)))⟩
    isC := fd_C_class
    isG := isG
    isT := isT
    isM := isM }
  have TE : ET K mg CE := {
    g_Effect := PySem.W.mg_of X G n_Effect
    cl := ⟨pgE, hdE, poE, fd_CE_setattr⟩
    nK := fd_CE_kind
    nE := fd_CE_ends
    isC := fd_CE_class
    isM := isME }

  have TB : KBT K mg KB := { g := PySem.W.mg_of X G n_KindBit, cl := ⟨pgB, hdB, poB, fd_KB_setattr⟩, nS := fd_KB_state, nK := fd_KB_kind }
  have ne : KB ≠ C := fun z => by rw [z] at neKB; simp at neKB
  refine ⟨PySem.W.fnOf "law" "law" (defArgs s_law) (defBody s_law) (defScope s_law) .none kVv111 dcv111 pmv111 anv111 cdv111 ctv111, fun s v => .of_eq rfl, fun base _ _ => ?_⟩
  have Dcheck_letters := defAt_of X G n_check_letters l_check_letters c_check_letters k_check_letters bd_check_letters
  have Dcheck_same_kind := defAt_of X G n_check_same_kind l_check_same_kind c_check_same_kind k_check_same_kind bd_check_same_kind
  have Dends_without_letters := defAt_of X G n_ends_without_letters l_ends_without_letters c_ends_without_letters k_ends_without_letters bd_ends_without_letters
  have Dends_of_letter := defAt_of X G n_ends_of_letter l_ends_of_letter c_ends_of_letter k_ends_of_letter bd_ends_of_letter
  have Djoined := defAt_of X G n_joined l_joined c_joined k_joined bd_joined
  have Dis_int := defAt_of X G n_is_int l_is_int c_is_int k_is_int bd_is_int
  have Dfull_word := defAt_of X G n_full_word l_full_word c_full_word k_full_word bd_full_word
  have Dis_word := defAt_of X G n_is_word l_is_word c_is_word k_is_word bd_is_word
  have Dcheck_word := defAt_of X G n_check_word l_check_word c_check_word k_check_word bd_check_word
  have D_law_pen := defAt_of X G n__law_pen l__law_pen c__law_pen k__law_pen bd__law_pen
  have D_law_draw := defAt_of X G n__law_draw l__law_draw c__law_draw k__law_draw bd__law_draw
  have D_law_write := defAt_of X G n__law_write l__law_write c__law_write k__law_write bd__law_write
  have D_law_read := defAt_of X G n__law_read l__law_read c__law_read k__law_read bd__law_read
  have D_law_deeds := defAt_of X G n__law_deeds l__law_deeds c__law_deeds k__law_deeds bd__law_deeds
  have D_law_words := defAt_of X G n__law_words l__law_words c__law_words k__law_words bd__law_words
  have D_law_states := defAt_of X G n__law_states l__law_states c__law_states k__law_states bd__law_states
  have D_law_letters := defAt_of X G n__law_letters l__law_letters c__law_letters k__law_letters bd__law_letters
  have D_law_set_up := defAt_of X G n__law_set_up l__law_set_up c__law_set_up k__law_set_up bd__law_set_up
  have D_law_led := defAt_of X G n__law_led l__law_led c__law_led k__law_led bd__law_led
  have D_law_way := defAt_of X G n__law_way l__law_way c__law_way k__law_way bd__law_way
  have D_law_letter := defAt_of X G n__law_letter l__law_letter c__law_letter k__law_letter bd__law_letter
  have D_law_kind_right := defAt_of X G n__law_kind_right l__law_kind_right c__law_kind_right k__law_kind_right bd__law_kind_right
  have M_init := metAt_of a_Kind___init__ i_Kind___init__ l_Kind___init__ c_Kind___init__ k_Kind___init__ bd_Kind___init__
  have M_after_read := metAt_of a_Kind_after_read i_Kind_after_read l_Kind_after_read c_Kind_after_read k_Kind_after_read bd_Kind_after_read
  have M_after_write := metAt_of a_Kind_after_write i_Kind_after_write l_Kind_after_write c_Kind_after_write k_Kind_after_write bd_Kind_after_write
  have M_unguarded := metAt_of a_Kind_unguarded i_Kind_unguarded l_Kind_unguarded c_Kind_unguarded k_Kind_unguarded bd_Kind_unguarded
  have M_deeds := metAt_of a_Kind_deeds i_Kind_deeds l_Kind_deeds c_Kind_deeds k_Kind_deeds bd_Kind_deeds
  have M_eq := metAt_of a_Kind___eq__ i_Kind___eq__ l_Kind___eq__ c_Kind___eq__ k_Kind___eq__ bd_Kind___eq__
  have E_init := metAt_of a_Effect___init__ i_Effect___init__ l_Effect___init__ c_Effect___init__ k_Effect___init__ bd_Effect___init__
  have E_call := metAt_of a_Effect___call__ i_Effect___call__ l_Effect___call__ c_Effect___call__ k_Effect___call__ bd_Effect___call__
  have E_eq := metAt_of a_Effect___eq__ i_Effect___eq__ l_Effect___eq__ c_Effect___eq__ k_Effect___eq__ bd_Effect___eq__
  have E_mul := metAt_of a_Effect___mul__ i_Effect___mul__ l_Effect___mul__ c_Effect___mul__ k_Effect___mul__ bd_Effect___mul__
  have B_read := metAt_of a_KindBit_read i_KindBit_read l_KindBit_read c_KindBit_read k_KindBit_read bd_KindBit_read
  have B_write := metAt_of a_KindBit_write i_KindBit_write l_KindBit_write c_KindBit_write k_KindBit_write bd_KindBit_write
  have B_deed := metAt_of a_KindBit_deed i_KindBit_deed l_KindBit_deed c_KindBit_deed k_KindBit_deed bd_KindBit_deed
  have nfC : PySem.W.notFirst K C (.ref C) = true := by
    unfold PySem.W.notFirst
    simp
  have nfE : PySem.W.notFirst K CE (.ref CE) = true := by
    unfold PySem.W.notFirst
    simp
  obtain ⟨fd1, x1, F1, b1, G1⟩ := ok_IN (P := l.prog) (base := base) M_init T
  obtain ⟨fd2, x2, F2, b2, G2⟩ := ok_AR (P := l.prog) (base := base) M_after_read T
  obtain ⟨fd3, x3, F3, b3, G3⟩ := ok_UN (P := l.prog) (base := base) M_unguarded T
  obtain ⟨fd4, x4, F4, b4, G4⟩ := ok_AW (P := l.prog) (base := base) M_after_write T ⟨fd3, _, x3, b3, G3⟩
  obtain ⟨fd5, x5, F5, b5, G5⟩ := ok_DE (P := l.prog) (base := base) M_deeds T
  obtain ⟨fd6, x6, F6, b6, G6⟩ := ok_EQ (P := l.prog) (base := base) M_eq T
  have mAR : Met l.prog w K mg base 1 C "after_read" _ (spAR C) := ⟨fd2, _, x2, b2, G2⟩
  have mAW : Met l.prog w K mg base 2 C "after_write" _ (spAW C) := ⟨fd4, _, x4, b4, G4⟩
  have mDE : Met l.prog w K mg base 1 C "deeds" _ (spDE C) := ⟨fd5, _, x5, b5, G5⟩
  have cCl := ok_cl (P := l.prog) (w := w) (base := base) Dcheck_letters B ⟨_, PySem.W.mg_of X G n_MOST⟩ ⟨_, PySem.W.mg_of X G n_LETTERS⟩
  have cEw := ok_ewl (P := l.prog) (w := w) (base := base) Dends_without_letters B T mDE
  have cEl := ok_eol (P := l.prog) (w := w) (base := base) Dends_of_letter B T mAR mAW
  have cJo := ok_joined (P := l.prog) (w := w) (base := base) Djoined B
  obtain ⟨fd7, x7, F7, b7, G7⟩ := ok_ei (P := l.prog) (w := w) (base := base) E_init TE
  have mkE_ : Mk K CE _ := ⟨mkE, a_Effect___init__, i_Effect___init__, kcE⟩
  have GOF := ok_of (fdo := PySem.W.fnOf "of" "Effect.of" (defArgs s_Effect_of) (defBody s_Effect_of) (defScope s_Effect_of) .none (.ref kdOF) dcOF pmOF anOF cdOF ctOF) (P := l.prog) (w := w) (mg := mg) (base := base) (C := C) l_OF c_OF TE cCl cEw cEl cJo mkE_ G7 b7
  obtain ⟨fd9, x9, F9, b9, G9⟩ := ok_ee (P := l.prog) (w := w) (base := base) E_eq TE B T G6 b6 a_Kind___eq__ i_Kind___eq__ nfC
  obtain ⟨fd10, x10, F10, b10, G10⟩ := ok_ecall (P := l.prog) (w := w) (base := base) (C := C) E_call TE
  have cSk := ok_sk (P := l.prog) (w := w) (base := base) Dcheck_same_kind TE T G6 b6 a_Kind___eq__ i_Kind___eq__ fd_C_ne nfC
  obtain ⟨fdM, xM, FM, bM, GM⟩ := ok_mul (P := l.prog) (w := w) (base := base) E_mul TE cSk cJo mkE_ G7 b7
  have cInt := ok_is_int (P := l.prog) (w := w) (base := base) Dis_int B (PySem.W.mg_none_of X G no_bool)
  have cFw := ok_full_word (P := l.prog) (w := w) (base := base) Dfull_word
  have cIw := ok_is_word (P := l.prog) (w := w) (base := base) Dis_word cInt cFw
  have cCw := ok_check_word (P := l.prog) (w := w) (base := base) Dcheck_word cIw
  have FN := fun_mk (st := s_Bit_now) l_N c_N k_N
  have FS := fun_mk (st := s_Bit_state) l_S c_S k_S
  have GN := ok_now (P := l.prog) (w := w) (base := base) FN TB
  have GS := ok_sta (P := l.prog) (w := w) (base := base) FS TB
  have bN := FN.binds bd_Bit_now
  have bS := FS.binds bd_Bit_state
  have PN : PropOf K KB "now" pN gN := ⟨nwB, spN, tkN, rsN, rec_at lN vN⟩
  have PS : PropOf K KB "state" pS gS := ⟨stB, spS, tkS, rsS, rec_at lS vS⟩
  have mRd := ok_kread (P := l.prog) (w := w) (base := base) B_read TB T.cl ne PN GN bN mAR
  have mWr := ok_kwrite (P := l.prog) (w := w) (base := base) B_write TB T.cl ne cCw mAW
  have mDd := ok_kdeed (P := l.prog) (w := w) (base := base) B_deed TB T.cl ne mDE
  have FbI : FunD K "__init__" "Bit.__init__" (defArgs s_Bit___init__) (defBody s_Bit___init__) (defScope s_Bit___init__) [.int 0] [] fbI _ :=
    ⟨⟨_, _, _, _, _, _, _, _, _, _, rfl, l_bI, c_bI, .inr ⟨by simp, TDbI, _, [.int 0 tubI], nTbI, rfl, lTbI, rfl, .cons ⟨_, rfl⟩ .nil⟩, .inl rfl⟩, k_bI⟩
  have bBI := bind_bit FbI
  have GI := ok_binit (P := l.prog) (w := w) (mg := mg) (base := base) FbI TB cCw
  have FkI : FunS l.prog K "__init__" "KindBit.__init__" s_KindBit___init__ fkI KB _ := ⟨⟨_, _, _, _, _, _, cdakI, cckI, rfl, c_kI, { lkF := ⟨_, _, _, l_kI⟩, lkC := ⟨_, _, _, _, _, _, lCkI, vkI, flkI⟩, lkCell := ⟨_, _, _, lcckI⟩, cls := ⟨_, clkI⟩, opq := opq, nosup := no_super, top := topE }⟩, k_kI⟩
  have GK := ok_kinit (P := l.prog) (w := w) (mg := mg) (base := base) FkI TB ⟨uiB, upB, i_bI, n_bI⟩ GI bBI
  have bK2 : Binds K (PySem.W.ksFn "__init__" "KindBit.__init__" (defArgs s_KindBit___init__) (defBody s_KindBit___init__) (defScope s_KindBit___init__) (.ref TDkI) kVkI dckI pmkI ankI (.ref cdakI) ctkI cckI) ["self", "kind", "value"] [] := binds_seq (its := [.int 0 tukI]) lTkI rfl fun us hl => by
    have hl : us.length = 3 := by simpa using hl
    match us, hl with
    | [_, _, _], _ => exact ⟨_, rfl, rfl⟩
  have cDr := ok_draw (P := l.prog) (w := w) (base := base) D_law_draw (bi_of B)
  have cPn := ok_pen (P := l.prog) (w := w) (base := base) D_law_pen (bi_of B)
  have cRd := ok_rdL (P := l.prog) (w := w) (base := base) D_law_read
  have cWr := ok_wrL (P := l.prog) (w := w) (base := base) D_law_write
  have cDv := ok_dvL (P := l.prog) (w := w) (base := base) D_law_deeds
  have cWo := ok_words (P := l.prog) (w := w) (base := base) D_law_words cDr
  have cSt := ok_states (P := l.prog) (w := w) (base := base) D_law_states
  have cLe := ok_letters12 (P := l.prog) (w := w) (base := base) D_law_letters B cDr
  have cSu := ok_set (P := l.prog) (w := w) (base := base) (C := C) D_law_set_up TB ne ⟨mkB, inB, i_kI, kcB⟩ GK bK2 mWr PS GS bS
  have cLd := ok_led (P := l.prog) (w := w) (base := base) (C := C) D_law_led B TB mRd mWr mDd PS GS bS
  have cLt := ok_lt (P := l.prog) (w := w) (base := base) D_law_letter B cRd cWr
  have cWy := ok_way (P := l.prog) (w := w) (base := base) D_law_way B cDv cLt
  have CM : ClX.CMet K CE mcE "of" pOF gOF := ⟨fcOF, ⟨rsOF, rec_at lpOF vOF⟩, fnOF⟩
  have CR : ClX.CRead K CE mcE := ⟨rdE, gaE⟩
  have FD : FunD K "of" "Effect.of" (defArgs s_Effect_of) (defBody s_Effect_of) (defScope s_Effect_of) [] [("quiet", .bl false)] gOF _ :=
    ⟨⟨_, _, _, _, _, _, _, _, _, _, rfl, l_OF, c_OF, .inl ⟨rfl, rfl⟩, .inr ⟨kdOF, rfl, fun q hq => by
      rw [List.mem_singleton.mp hq]
      exact ⟨_, nkOF, rfl⟩⟩⟩, k_OF⟩
  obtain ⟨dO, vO, bO⟩ := bind_of FD
  have cKr := ok_kr (P := l.prog) (w := w) (base := base) D_law_kind_right T TE TB B nfE isG isT cDr cWo cLe cSt cSu cLd cWy ⟨mk, a_Kind___init__, i_Kind___init__, kc⟩ G1 b1 CR CM GOF kb_ofM bO vO a_Effect___call__ i_Effect___call__ fnEC G10 b10 sfE a_Effect___mul__ i_Effect___mul__ GM bM G9 b9 a_Effect___eq__ i_Effect___eq__
  exact ok_law (fun_mk (st := s_law) l_law c_law k_law) cPn cKr
end Law

set_option Elab.async false
set_option linter.all false
set_option maxRecDepth 100000
set_option maxHeartbeats 4000000
namespace Law
open PySem PySem.Spec PySem.Calls PyProof.Rows L2 KG
local macro_rules | `(tactic| walk_at "1") => `(tactic| first
  | (with_reducible refine w_var rfl ?_) | (with_reducible refine w_c ?_) | (with_reducible refine w_seq ?_) | (with_reducible refine w_asg ?_) | (with_reducible refine w_gname ?_) | (with_reducible refine w_op ?_) | (with_reducible refine w_un ?_)
  | (with_reducible refine w_add ?_) | (with_reducible refine w_sub ?_) | ((with_reducible refine' w_mod ?mo ?_); (case mo => first | assumption | decide | omega)) | (with_reducible refine w_and ?_) | (with_reducible refine w_or ?_) | (with_reducible refine w_xor ?_)
  | (with_reducible refine w_gt ?_) | (with_reducible refine w_lt ?_) | (with_reducible refine w_ge ?_) | (with_reducible refine w_le ?_) | ((with_reducible refine' w_eq ?sc ?_); (case sc => rfl)) | ((with_reducible refine' w_ne ?sc ?_); (case sc => rfl))
  | (with_reducible refine w_ret ?_) | (with_reducible refine w_next ?_) | (with_reducible refine w_ifs ?_) | (with_reducible refine w_ifx ?_) | (with_reducible refine w_test ?_) | (with_reducible refine w_tB ?_) | (with_reducible refine w_bl ?_)
  | ((with_reducible refine' w_ixL ?ixh ?ixa ?_); (case ixh => first | exact SqL.of (by assumption)); (case ixa => first | rfl | skip)) | ((with_reducible refine' w_ixT ?ixh ?ixa ?_); (case ixh => first | exact SqT.of (by assumption)); (case ixa => first | rfl | skip))
  | ((with_reducible refine' w_fld ?_)) | ((with_reducible refine' fld ?fh ?fc ?fn ?fl ?_); (case fh => assumption); (case fc => assumption); (case fn => assumption); (case fl => rfl)) | (with_reducible refine w_sfld ?_)
  | (with_reducible refine Or.inl ⟨_, rfl, ?_⟩) | (with_reducible refine w_gsub ?_) | (with_reducible refine w_andV ?_) | (with_reducible refine w_orV ?_)
  | (with_reducible refine w_nil ?_) | (with_reducible refine w_cons ?_) | (with_reducible refine w_tup ?_) | (with_reducible refine w_lst ?_) | (with_reducible refine w_and2 ?_) | (with_reducible refine w_or2 ?_) | (with_reducible refine w_not ?_) | (with_reducible refine w_cb ?_) | (with_reducible refine w_call ?_) | (with_reducible refine w_par ?_) | (with_reducible refine w_pnil ?_) | (with_reducible refine w_pcons ?_) | (with_reducible refine w_dput ?_) | (with_reducible refine w_dget ?_) | (with_reducible refine w_for ?_) | (with_reducible refine w_itup ?_) | (with_reducible refine w_ilist ?_) | (with_reducible refine w_irng ?_) | (with_reducible refine w_meth ?_) | (with_reducible refine w_make ?_) | (with_reducible refine w_makeK ?_) | (with_reducible refine w_methK ?_) | ((with_reducible refine' mth ?mh ?ml ?_); (case mh => assumption); (case ml => rfl)) | (with_reducible refine w_drop ?_))
local macro_rules | `(tactic| walk_at "go") => `(tactic| ((repeat (walk_at "1")); try dsimp only))
local macro_rules | `(tactic| walk_at "1") => `(tactic| first
  | (with_reducible refine w_notV ?_) | (with_reducible refine w_callK ?_) | (with_reducible refine w_lc ?_) | (with_reducible refine w_chain ?_) | (with_reducible refine w_neg ?_) | ((with_reducible refine' w_shr ?mo ?_); (case mo => first | assumption | omega)))
end Law
open PySem PySem.W PyProof.Rows
set_option maxRecDepth 100000 in
set_option maxHeartbeats 0 in
theorem PySem.Challenge.cw_keptbits_k16_whole_runs_of_bits_and_effe_holds : PySem.Challenge.rw_keptbits_k16_whole_runs_of_bits_and_effe.Holds := by
  w_on; o_law; k_head; (case hw => w_witness2)
  k_fill
  refine KG.walk_gdK (CX := L2.CX0) (sp := Law.spLaw) (k := 10) (n := 63) (x := "_law_script") (l := PySem.Challenge.rw_keptbits_k16_whole_runs_of_bits_and_effe) rfl (by decide) rfl ⟨rfl, by decide, by decide⟩ (fun w h Y => PySem.W.kIn_of Y) ?F ?g1 ?g2
  case g1 => exact fun K H a ns hl _ hS => ⟨a, ns, rfl, hS, hl, fun _ => rfl⟩
  case g2 => exact fun _ _ _ _ z => z
  case F =>
    intro w mg fa h KX G hmg
    refine' Law.all KX G hmg ?n_Kind ?n_WRITES ?n_INVERTED ?n_Effect ?n_SPENT ?n_MOST ?n_LETTERS ?no_int ?no_len ?no_abs ?no_list ?no_repr ?no_range ?no_str ?no_isinstance ?no_tuple ?no_sorted ?no_set ?no_enumerate ?no_zip ?pg ?hd ?po ?fd_C_setattr ?fd_C_reading ?fd_C_writing ?fd_C_device ?fd_C_states ?fd_C_class ?fd_C_ne ?isG ?isT ?isM ?mk ?kc ?mcT ?rdI ?gaI ?v_READINGS ?q_aR ?v_WRITINGS ?q_bW ?v_DEVICES ?q_aD ?lW ?lI ?kW ?kI ?g_w_store ?q_w_store ?q_w_storea ?q_w_storeb ?g_w_clear1 ?q_w_clear1 ?q_w_clear1a ?q_w_clear1b ?g_w_clear0 ?q_w_clear0 ?q_w_clear0a ?q_w_clear0b ?g_w_set1 ?q_w_set1 ?q_w_set1a ?q_w_set1b ?g_w_flip1 ?q_w_flip1 ?q_w_flip1a ?q_w_flip1b ?g_w_once ?q_w_once ?q_w_oncea ?q_w_onceb ?g_w_none ?q_w_none ?q_w_nonea ?q_w_noneb ?g_i_still ?q_i_still ?g_i_raise ?q_i_raise ?g_i_end ?q_i_end ?g_i_drift ?q_i_drift ?a_Kind___init__ ?i_Kind___init__ ?l_Kind___init__ ?c_Kind___init__ ?k_Kind___init__ ?a_Kind_after_read ?i_Kind_after_read ?l_Kind_after_read ?c_Kind_after_read ?k_Kind_after_read ?a_Kind_after_write ?i_Kind_after_write ?l_Kind_after_write ?c_Kind_after_write ?k_Kind_after_write ?a_Kind_unguarded ?i_Kind_unguarded ?l_Kind_unguarded ?c_Kind_unguarded ?k_Kind_unguarded ?a_Kind_deeds ?i_Kind_deeds ?l_Kind_deeds ?c_Kind_deeds ?k_Kind_deeds ?a_Kind___eq__ ?i_Kind___eq__ ?l_Kind___eq__ ?c_Kind___eq__ ?k_Kind___eq__ ?pgE ?hdE ?poE ?fd_CE_setattr ?fd_CE_kind ?fd_CE_ends ?fd_CE_class ?fd_CE_ne ?isME ?mkE ?kcE ?mcET ?rdE ?gaE ?a_Effect___init__ ?i_Effect___init__ ?l_Effect___init__ ?c_Effect___init__ ?k_Effect___init__ ?a_Effect___call__ ?i_Effect___call__ ?l_Effect___call__ ?c_Effect___call__ ?k_Effect___call__ ?a_Effect___eq__ ?i_Effect___eq__ ?l_Effect___eq__ ?c_Effect___eq__ ?k_Effect___eq__ ?a_Effect___mul__ ?i_Effect___mul__ ?l_Effect___mul__ ?c_Effect___mul__ ?k_Effect___mul__ ?fnEC ?fcOF ?lpOF ?vOF ?l_OF ?c_OF ?k_OF ?fnOF ?nkOF ?no_bool ?no_super ?sfE ?n_KindBit ?neKB ?pgB ?hdB ?poB ?fd_KB_setattr ?fd_KB_state ?fd_KB_kind ?mkB ?kcB ?inB ?a_KindBit_read ?i_KindBit_read ?l_KindBit_read ?c_KindBit_read ?k_KindBit_read ?a_KindBit_write ?i_KindBit_write ?l_KindBit_write ?c_KindBit_write ?k_KindBit_write ?a_KindBit_deed ?i_KindBit_deed ?l_KindBit_deed ?c_KindBit_deed ?k_KindBit_deed ?nwB ?stB ?l_kI ?c_kI ?lCkI ?vkI ?flkI ?lcckI ?clkI ?i_kI ?k_kI ?n_Bit ?inBB ?uiB ?upB ?l_bI ?c_bI ?k_bI ?i_bI ?n_bI ?lTbI ?lTkI ?lN ?vN ?spN ?tkN ?l_N ?c_N ?k_N ?lS ?vS ?spS ?tkS ?l_S ?c_S ?k_S ?opq ?topE ?n_check_letters ?l_check_letters ?c_check_letters ?k_check_letters ?n_check_same_kind ?l_check_same_kind ?c_check_same_kind ?k_check_same_kind ?n_ends_without_letters ?l_ends_without_letters ?c_ends_without_letters ?k_ends_without_letters ?n_ends_of_letter ?l_ends_of_letter ?c_ends_of_letter ?k_ends_of_letter ?n_joined ?l_joined ?c_joined ?k_joined ?n_is_int ?l_is_int ?c_is_int ?k_is_int ?n_full_word ?l_full_word ?c_full_word ?k_full_word ?n_is_word ?l_is_word ?c_is_word ?k_is_word ?n_check_word ?l_check_word ?c_check_word ?k_check_word ?n__law_pen ?l__law_pen ?c__law_pen ?k__law_pen ?n__law_draw ?l__law_draw ?c__law_draw ?k__law_draw ?n__law_write ?l__law_write ?c__law_write ?k__law_write ?n__law_read ?l__law_read ?c__law_read ?k__law_read ?n__law_deeds ?l__law_deeds ?c__law_deeds ?k__law_deeds ?n__law_words ?l__law_words ?c__law_words ?k__law_words ?n__law_states ?l__law_states ?c__law_states ?k__law_states ?n__law_letters ?l__law_letters ?c__law_letters ?k__law_letters ?n__law_set_up ?l__law_set_up ?c__law_set_up ?k__law_set_up ?n__law_led ?l__law_led ?c__law_led ?k__law_led ?n__law_way ?l__law_way ?c__law_way ?k__law_way ?n__law_letter ?l__law_letter ?c__law_letter ?k__law_letter ?n__law_kind_right ?l__law_kind_right ?c__law_kind_right ?k__law_kind_right ?n_law ?l_law ?c_law ?k_law
    (case n_Kind => k_is)
    (case n_WRITES => k_is)
    (case n_INVERTED => k_is)
    (case n_Effect => k_is)
    (case n_SPENT => k_is)
    (case n_MOST => k_is)
    (case n_LETTERS => k_is)
    (case no_int => k_is)
    (case no_len => k_is)
    (case no_abs => k_is)
    (case no_list => k_is)
    (case no_repr => k_is)
    (case no_range => k_is)
    (case no_str => k_is)
    (case no_isinstance => k_is)
    (case no_tuple => k_is)
    (case no_sorted => k_is)
    (case no_set => k_is)
    (case no_enumerate => k_is)
    (case no_zip => k_is)
    (case pg => k_is)
    (case hd => k_is)
    (case po => k_is)
    (case fd_C_setattr => k_is)
    (case fd_C_reading => k_is)
    (case fd_C_writing => k_is)
    (case fd_C_device => k_is)
    (case fd_C_states => k_is)
    (case fd_C_class => k_is)
    (case fd_C_ne => k_is)
    (case isG => k_is)
    (case isT => k_is)
    (case isM => k_is)
    (case mk => k_is)
    (case kc => k_is)
    (case mcT => k_is)
    (case rdI => k_is)
    (case gaI => k_is)
    (case v_READINGS => k_is)
    (case q_aR => k_is)
    (case v_WRITINGS => k_is)
    (case q_bW => k_is)
    (case v_DEVICES => k_is)
    (case q_aD => k_is)
    (case lW => k_is)
    (case lI => k_is)
    (case kW => repeat (first | exact True.intro | refine ⟨⟨_, _, rfl, rfl⟩, ?_⟩))
    (case kI => repeat (first | exact True.intro | refine ⟨⟨_, _, rfl, rfl⟩, ?_⟩))
    (case g_w_store => k_is)
    (case q_w_store => k_is)
    (case q_w_storea => k_is)
    (case q_w_storeb => k_is)
    (case g_w_clear1 => k_is)
    (case q_w_clear1 => k_is)
    (case q_w_clear1a => k_is)
    (case q_w_clear1b => k_is)
    (case g_w_clear0 => k_is)
    (case q_w_clear0 => k_is)
    (case q_w_clear0a => k_is)
    (case q_w_clear0b => k_is)
    (case g_w_set1 => k_is)
    (case q_w_set1 => k_is)
    (case q_w_set1a => k_is)
    (case q_w_set1b => k_is)
    (case g_w_flip1 => k_is)
    (case q_w_flip1 => k_is)
    (case q_w_flip1a => k_is)
    (case q_w_flip1b => k_is)
    (case g_w_once => k_is)
    (case q_w_once => k_is)
    (case q_w_oncea => k_is)
    (case q_w_onceb => k_is)
    (case g_w_none => k_is)
    (case q_w_none => k_is)
    (case q_w_nonea => k_is)
    (case q_w_noneb => k_is)
    (case g_i_still => k_is)
    (case q_i_still => k_is)
    (case g_i_raise => k_is)
    (case q_i_raise => k_is)
    (case g_i_end => k_is)
    (case q_i_end => k_is)
    (case g_i_drift => k_is)
    (case q_i_drift => k_is)
    (case a_Kind___init__ => k_is)
    (case i_Kind___init__ => k_is)
    (case l_Kind___init__ => k_is)
    (case c_Kind___init__ => k_is)
    (case k_Kind___init__ => k_is)
    (case a_Kind_after_read => k_is)
    (case i_Kind_after_read => k_is)
    (case l_Kind_after_read => k_is)
    (case c_Kind_after_read => k_is)
    (case k_Kind_after_read => k_is)
    (case a_Kind_after_write => k_is)
    (case i_Kind_after_write => k_is)
    (case l_Kind_after_write => k_is)
    (case c_Kind_after_write => k_is)
    (case k_Kind_after_write => k_is)
    (case a_Kind_unguarded => k_is)
    (case i_Kind_unguarded => k_is)
    (case l_Kind_unguarded => k_is)
    (case c_Kind_unguarded => k_is)
    (case k_Kind_unguarded => k_is)
    (case a_Kind_deeds => k_is)
    (case i_Kind_deeds => k_is)
    (case l_Kind_deeds => k_is)
    (case c_Kind_deeds => k_is)
    (case k_Kind_deeds => k_is)
    (case a_Kind___eq__ => k_is)
    (case i_Kind___eq__ => k_is)
    (case l_Kind___eq__ => k_is)
    (case c_Kind___eq__ => k_is)
    (case k_Kind___eq__ => k_is)
    (case pgE => k_is)
    (case hdE => k_is)
    (case poE => k_is)
    (case fd_CE_setattr => k_is)
    (case fd_CE_kind => k_is)
    (case fd_CE_ends => k_is)
    (case fd_CE_class => k_is)
    (case fd_CE_ne => k_is)
    (case isME => k_is)
    (case mkE => k_is)
    (case kcE => k_is)
    (case mcET => k_is)
    (case rdE => first | k_is | kernel_rfl)
    (case gaE => first | k_is | kernel_rfl)
    (case a_Effect___init__ => k_is)
    (case i_Effect___init__ => k_is)
    (case l_Effect___init__ => k_is)
    (case c_Effect___init__ => k_is)
    (case k_Effect___init__ => k_is)
    (case a_Effect___call__ => k_is)
    (case i_Effect___call__ => k_is)
    (case l_Effect___call__ => k_is)
    (case c_Effect___call__ => k_is)
    (case k_Effect___call__ => k_is)
    (case a_Effect___eq__ => k_is)
    (case i_Effect___eq__ => k_is)
    (case l_Effect___eq__ => k_is)
    (case c_Effect___eq__ => k_is)
    (case k_Effect___eq__ => k_is)
    (case a_Effect___mul__ => k_is)
    (case i_Effect___mul__ => k_is)
    (case l_Effect___mul__ => k_is)
    (case c_Effect___mul__ => k_is)
    (case k_Effect___mul__ => k_is)
    (case fnEC => first | k_is | kernel_rfl)
    (case fcOF => first | k_is | kernel_rfl)
    (case lpOF => k_is)
    (case vOF => rfl)
    (case l_OF => k_is)
    (case c_OF => k_is)
    (case k_OF => k_is)
    (case fnOF => first | k_is | kernel_rfl)
    (case nkOF => k_is)
    (case no_bool => k_is)
    (case no_super => k_is)
    (case sfE => first | k_is | kernel_rfl)
    (case n_KindBit => k_is)
    (case neKB => rfl)
    (case pgB => k_is)
    (case hdB => k_is)
    (case poB => k_is)
    (case fd_KB_setattr => k_is)
    (case fd_KB_state => k_is)
    (case fd_KB_kind => k_is)
    (case mkB => k_is)
    (case kcB => k_is)
    (case inB => k_is)
    (case a_KindBit_read => k_is)
    (case i_KindBit_read => k_is)
    (case l_KindBit_read => k_is)
    (case c_KindBit_read => k_is)
    (case k_KindBit_read => k_is)
    (case a_KindBit_write => k_is)
    (case i_KindBit_write => k_is)
    (case l_KindBit_write => k_is)
    (case c_KindBit_write => k_is)
    (case k_KindBit_write => k_is)
    (case a_KindBit_deed => k_is)
    (case i_KindBit_deed => k_is)
    (case l_KindBit_deed => k_is)
    (case c_KindBit_deed => k_is)
    (case k_KindBit_deed => k_is)
    (case nwB => k_is)
    (case stB => k_is)
    (case l_kI => k_is)
    (case c_kI => k_is)
    (case lCkI => k_is)
    (case vkI => rfl)
    (case flkI => rfl)
    (case lcckI => k_is)
    (case clkI => k_is)
    (case i_kI => k_is)
    (case k_kI => k_is)
    (case n_Bit => k_is)
    (case inBB => k_is)
    (case uiB => k_is)
    (case upB => first | k_is | kernel_rfl | decide +kernel | rfl)
    (case l_bI => k_is)
    (case c_bI => k_is)
    (case k_bI => k_is)
    (case i_bI => k_is)
    (case n_bI => first | k_is | kernel_rfl)
    (case lTbI => k_is)
    (case lTkI => k_is)
    (case lN => k_is)
    (case vN => rfl)
    (case spN => first | k_is | kernel_rfl)
    (case tkN => first | k_is | kernel_rfl)
    (case l_N => k_is)
    (case c_N => k_is)
    (case k_N => k_is)
    (case lS => k_is)
    (case vS => rfl)
    (case spS => first | k_is | kernel_rfl)
    (case tkS => first | k_is | kernel_rfl)
    (case l_S => k_is)
    (case c_S => k_is)
    (case k_S => k_is)
    (case opq => k_is)
    (case topE => rfl)
    (case n_check_letters => k_is)
    (case l_check_letters => k_is)
    (case c_check_letters => k_is)
    (case k_check_letters => k_is)
    (case n_check_same_kind => k_is)
    (case l_check_same_kind => k_is)
    (case c_check_same_kind => k_is)
    (case k_check_same_kind => k_is)
    (case n_ends_without_letters => k_is)
    (case l_ends_without_letters => k_is)
    (case c_ends_without_letters => k_is)
    (case k_ends_without_letters => k_is)
    (case n_ends_of_letter => k_is)
    (case l_ends_of_letter => k_is)
    (case c_ends_of_letter => k_is)
    (case k_ends_of_letter => k_is)
    (case n_joined => k_is)
    (case l_joined => k_is)
    (case c_joined => k_is)
    (case k_joined => k_is)
    (case n_is_int => k_is)
    (case l_is_int => k_is)
    (case c_is_int => k_is)
    (case k_is_int => k_is)
    (case n_full_word => k_is)
    (case l_full_word => k_is)
    (case c_full_word => k_is)
    (case k_full_word => k_is)
    (case n_is_word => k_is)
    (case l_is_word => k_is)
    (case c_is_word => k_is)
    (case k_is_word => k_is)
    (case n_check_word => k_is)
    (case l_check_word => k_is)
    (case c_check_word => k_is)
    (case k_check_word => k_is)
    (case n__law_pen => k_is)
    (case l__law_pen => k_is)
    (case c__law_pen => k_is)
    (case k__law_pen => k_is)
    (case n__law_draw => k_is)
    (case l__law_draw => k_is)
    (case c__law_draw => k_is)
    (case k__law_draw => k_is)
    (case n__law_write => k_is)
    (case l__law_write => k_is)
    (case c__law_write => k_is)
    (case k__law_write => k_is)
    (case n__law_read => k_is)
    (case l__law_read => k_is)
    (case c__law_read => k_is)
    (case k__law_read => k_is)
    (case n__law_deeds => k_is)
    (case l__law_deeds => k_is)
    (case c__law_deeds => k_is)
    (case k__law_deeds => k_is)
    (case n__law_words => k_is)
    (case l__law_words => k_is)
    (case c__law_words => k_is)
    (case k__law_words => k_is)
    (case n__law_states => k_is)
    (case l__law_states => k_is)
    (case c__law_states => k_is)
    (case k__law_states => k_is)
    (case n__law_letters => k_is)
    (case l__law_letters => k_is)
    (case c__law_letters => k_is)
    (case k__law_letters => k_is)
    (case n__law_set_up => k_is)
    (case l__law_set_up => k_is)
    (case c__law_set_up => k_is)
    (case k__law_set_up => k_is)
    (case n__law_led => k_is)
    (case l__law_led => k_is)
    (case c__law_led => k_is)
    (case k__law_led => k_is)
    (case n__law_way => k_is)
    (case l__law_way => k_is)
    (case c__law_way => k_is)
    (case k__law_way => k_is)
    (case n__law_letter => k_is)
    (case l__law_letter => k_is)
    (case c__law_letter => k_is)
    (case k__law_letter => k_is)
    (case n__law_kind_right => k_is)
    (case l__law_kind_right => k_is)
    (case c__law_kind_right => k_is)
    (case k__law_kind_right => k_is)
    (case n_law => k_is)
    (case l_law => k_is)
    (case c_law => k_is)
    (case k_law => k_is)
#print axioms PySem.Challenge.cw_keptbits_k16_whole_runs_of_bits_and_effe_holds
