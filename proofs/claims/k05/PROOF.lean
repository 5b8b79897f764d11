import PyProof.Rows.All
import Wide.All
import OpenK.AllK
import Wide.FinOn
import HandS.ForMost
import HandS.ForExc
import HandS.MakeKw
import HandS.FStr
import HandS.Conv
import HandS.ClsMeth
import KE.KCallOwn
import HandS.IsInst
import PyProof.InstEq
import HandS.Lambda
import HandS.ExcInit
import HandS.ExcIs
import HandS.ExcField
import KE.KExcIs
import KE.KExcSuper
import KE.KExcMake
import HandS.EndTab
import HandS.EndOwn
import HandS.NestedK
import PyProof.P3In
import PyProof.FactsAll.dict_1
import KE.KOpsOwn
import HandS.SlotsOwn
import HandS.Defaults
import PyProof.ReprLoop
import PyProof.TwoTypes
import PyProof.Rows.FactsB_and
import PyProof.Rows.FactsB_or
import PyProof.Rows.FactsB_xor
import HandS.Property
import HandS.Text
import KE.BitLaws
import HandS.TupAny
import PySem.Challenge.RW_keptbits_k05_what_blends_refuse
set_option Elab.async false
set_option linter.all false
set_option maxRecDepth 100000
set_option maxHeartbeats 4000000
/-! KG: defs that are promised something where nothing is being shown (no repr under way), so that repr of data is an exact text. -/
namespace KG
open PySem PySem.Spec PyProof.Rows L2

/-- the promise of a def, for callers around which nothing is being shown -/
structure Gd (P : Program) (w : World) (K : PySem.W.Frag) (mg : Str → Option Value) (base : Heap) (CX : CXT) (k : Nat) (f : Addr) (fd : FuncData) (ps : List Str) (sp : Sp) : Prop where
  len : ∀ vs H Q E, sp vs H Q E → vs.length = ps.length
  go : ∀ (A : Around) (outer : List Env) (s : Shared) (H : Hp) (args : Args) (us : List Value) (vs : List V) (Q : VK) (E : XK),
    Room k A → A.guards = some [] → Env0 P w K mg base A outer s H → BindsTo s fd args (ps.zip us) → Vals vs us → sp vs H Q E →
    codeAny (model P w) A (.call (.ref f) args) (CR CX outer P w H s Q E) s

section
variable {P : Program} {w : World} {K : PySem.W.Frag} {mg : Str → Option Value} {base : Heap} {CX : CXT} {k j : Nat} {f : Addr} {fd : FuncData} {ps : List Str} {sp sp' : Sp}
theorem Gd.mono (F : Gd P w K mg base CX j f fd ps sp) (h : j ≤ k) : Gd P w K mg base CX k f fd ps sp :=
  ⟨F.len, fun A o s H a us vs Q E rm => F.go A o s H a us vs Q E (rm.mono h)⟩
theorem Gd.imp (F : Gd P w K mg base CX k f fd ps sp) (h : ∀ vs H Q E, sp' vs H Q E → sp vs H Q E) : Gd P w K mg base CX k f fd ps sp' :=
  ⟨fun vs H Q E q => F.len vs H Q E (h _ _ _ _ q), fun A o s H a us vs Q E rm gd e0 bt rv q => F.go A o s H a us vs Q E rm gd e0 bt rv (h _ _ _ _ q)⟩
theorem Gd.of_ok (F : FnOk P w K mg base CX k f fd ps sp) : Gd P w K mg base CX k f fd ps sp :=
  ⟨F.len, fun A o s H a us vs Q E rm _ e0 bt rv q => F.run A o s H a us vs Q E rm e0 bt rv q⟩

/-- a def by its body -/
theorem gd_of {name qual : Str} {params : Arguments} {body : List Stmt} {scope : Scope} {dV kV doc pm cdv ct oc : Value} {an od : Option Addr}
    {osl : Array (Option Value)} {N : List Str}
    (found : K.lookup f = some ⟨oc, od, .func (PySem.W.fnOf name qual params body scope dV kV doc pm an cdv ct), osl⟩)
    (code : PySem.W.codeIn K cdv qual = true) (sc : FnScope N ps scope) (len : ∀ vs H Q E, sp vs H Q E → vs.length = ps.length)
    (inner : ∀ (A : Around) (outer : List Env) (s : Shared) (H : Hp) (vs : List V) (Q : VK) (E : XK),
      Room k (A.deeper (envOfC qual scope s.heap.objs.size f cdv)) → (A.deeper (envOfC qual scope s.heap.objs.size f cdv)).guards = some [] → sp vs H Q E →
      ∃ t, PSs (cxOf CX P w K mg base N qual scope f cdv A outer s H E) body t ∧ t { nx := fun _ H' => Q .non H', rt := Q } (start N vs) H) :
    Gd P w K mg base CX (k + 1) f (PySem.W.fnOf name qual params body scope dV kV doc pm an cdv ct) ps sp := by
  refine ⟨len, fun A outer s H args us vs Q E rm gd e0 bt rv q0 => ?_⟩
  have llen := len _ _ _ _ q0
  have kin : K.In s.heap := e0.mod.kin.keeps fun b o e => (e0.bs b o e).1
  have nolim : s.heap.NoLimit := e0.mod.nolimit.keeps fun b o e => (e0.bs b o e).1
  have kinds : ∀ y ∈ ps.zip us, scope.names.lookup y.1 = some .local ∨
      (scope.names.lookup y.1 = some .cell ∧ ((cellsFrom (s.heap.objs.size + 1) scope.names []).lookup y.1).isSome = true) := by
    intro ⟨n, v⟩ hy
    rcases sc.par n (List.of_mem_zip hy).1 with z | z
    · exact .inl z
    · exact .inr ⟨z, PySem.W.cellsFrom_some _ _ _ (.inl z)⟩
  refine codeAny_call_function rm.depth (kin _ _ found) rfl sc.co sc.gen rfl (PySem.W.codeRec_of kin code) (bt _ _ _ _ ?_)
  refine wpAny_newFunctionEnv_cells sc.kind kinds fun env he s1 x => ?_
  subst he
  refine ⟨nolim.keeps x.toInCall.keep, codeAny_func ?_⟩
  obtain ⟨t, ht, hq⟩ := inner A outer s H vs Q E (rm.deeper _) gd q0
  have I := inv_start (CX := CX) (E := E) sc rm.hd e0 llen rv x
  refine wpAny_mono (ht.run [] s1 (start N vs) H _ I hq) (fun fl s' hs => ?_) fun e s' hs => hs
  have done : ∀ {σ' : L2.St} {H' : Hp} {v : V} {u : Value}, Inv (cxOf CX P w K mg base N qual scope f cdv A outer s H E) [] σ' H' s' → RelV v u → Q v H' → CE outer P w H s Q u s' :=
    fun {σ' H' v u} J r q => ⟨v, H', J.os, J.bare, J.base, J.hok, r, q⟩
  cases fl with
  | ret u =>
    obtain ⟨v, σ', H', J, r, q⟩ := hs
    exact done J r q
  | next =>
    obtain ⟨σ', H', J, q⟩ := hs
    exact done (v := V.non) (u := Value.none) J rfl q
  | brk => exact hs.elim fun _ h => h.elim fun _ h => False.elim h.2
  | cont => exact hs.elim fun _ h => h.elim fun _ h => False.elim h.2

/-- a def of the text that raises nothing, by its body -/
theorem gd0 {x qual : Str} {st : Stmt} {N : List Str} (F : Fun K x qual st f fd) (sc : FnScope N ps (defScope st)) (len : ∀ vs H Q E, sp vs H Q E → vs.length = ps.length)
    (inner : ∀ (cdv : Value) (A : Around) (outer : List Env) (s : Shared) (H : Hp) (vs : List V) (Q : VK) (E : XK),
      Room k (A.deeper (envOfC qual (defScope st) s.heap.objs.size f cdv)) → (A.deeper (envOfC qual (defScope st) s.heap.objs.size f cdv)).guards = some [] → sp vs H Q E →
      ∃ t, PSs (cxOf CX0 P w K mg base N qual (defScope st) f cdv A outer s H E).nox (defBody st) t ∧ t { nx := fun _ H' => Q .non H', rt := Q } (start N vs) H) :
    Gd P w K mg base CX0 (k + 1) f fd ps sp := by
  obtain ⟨oc, od, kV, doc, pm, an, cdv, ct, osl, rfl, found, code⟩ := F.ex
  exact gd_of found code sc len fun A outer s H vs Q E rm gd q => (inner cdv A outer s H vs Q E rm gd q).elim fun t h => ⟨t, h.1.nox, h.2⟩
/-- a def of the text that may raise, by its body -/
theorem gdX {x qual : Str} {st : Stmt} {N : List Str} (F : Fun K x qual st f fd) (sc : FnScope N ps (defScope st)) (len : ∀ vs H Q E, sp vs H Q E → vs.length = ps.length)
    (inner : ∀ (cdv : Value) (A : Around) (outer : List Env) (s : Shared) (H : Hp) (vs : List V) (Q : VK) (E : XK),
      Room k (A.deeper (envOfC qual (defScope st) s.heap.objs.size f cdv)) → (A.deeper (envOfC qual (defScope st) s.heap.objs.size f cdv)).guards = some [] → sp vs H Q E →
      ∃ t, PSs (cxOf (L2.CX P w) P w K mg base N qual (defScope st) f cdv A outer s H E) (defBody st) t ∧ t { nx := fun _ H' => Q .non H', rt := Q } (start N vs) H) :
    Gd P w K mg base (L2.CX P w) (k + 1) f fd ps sp := by
  obtain ⟨oc, od, kV, doc, pm, an, cdv, ct, osl, rfl, found, code⟩ := F.ex
  exact gd_of found code sc len fun A outer s H vs Q E rm gd q => inner cdv A outer s H vs Q E rm gd q
end

/-! ### calls -/
section
variable {X : Cx} {CX : CXT} {k : Nat} {f C : Addr} {fd : FuncData} {ps ks : List Str} {sp : Sp} {dvs : List V} {ds : List Value} {E : XK} {x m : Str} {p pos apos : Pos} {e o : Expr} {es : List Expr} {kws : List Keyword} {ta te : TE} {t tk : TA}
/-- the callee runs, around it A with the same frames and nothing shown -/
theorem run_at {pins : List (Addr × Obj)} {σ : L2.St} {H : Hp} {s : Shared} {Q : VK} {us ws : List Value} {kw : List (Str × Value)} {vs : List V} {A : Around} {W : Value → Shared → Prop}
    (F : Gd X.prog X.w X.K X.mg X.base CX k f fd ps sp) (rm : Room k A) (gd : A.guards = some []) (e0 : Env0 X.prog X.w X.K X.mg X.base A X.stack s H)
    (pass : ∀ e s', CX X.stack H s E e s' → W e s')
    (I : Inv X pins σ H s) (bt : BindsTo s fd ⟨us, kw⟩ (ps.zip ws)) (r : Vals vs ws) (q : sp vs H Q E) : wpAny (model X.prog X.w) A (call (.ref f) us kw) (EP X pins σ Q) W s := by
  refine wpAny_call (codeAny_mono (F.go A X.stack s H ⟨us, kw⟩ ws vs Q E rm gd e0 bt r q) fun out s' hq => ?_)
  match out, hq with
  | .error e, hq => exact pass e s' hq
  | .ok (.ret u), hq => exact I.after hq
theorem run_g {pins : List (Addr × Obj)} {σ : L2.St} {H : Hp} {s : Shared} {Q : VK} {us ws : List Value} {kw : List (Str × Value)} {vs : List V}
    (F : Gd X.prog X.w X.K X.mg X.base CX k f fd ps sp) (rm : Room k X.A) (gd : X.A.guards = some []) (hx : Passes CX X E)
    (I : Inv X pins σ H s) (bt : BindsTo s fd ⟨us, kw⟩ (ps.zip ws)) (r : Vals vs ws) (q : sp vs H Q E) : wpAny (model X.prog X.w) X.A (call (.ref f) us kw) (EP X pins σ Q) X.xe s :=
  run_at F rm gd I.env0 (fun e s' hq => hx pins σ H s e s' I hq) I bt r q
theorem bind_pos {s : Shared} {us : List Value} {vs : List V} {H : Hp} {Q : VK} (F : Gd X.prog X.w X.K X.mg X.base CX k f fd ps sp) (hb : Binds X.K fd ps ds) (hd : Vals dvs ds) (KX : X.K.In s.heap) (r : Vals vs us) (q : sp (vs ++ dvs) H Q E) :
    BindsTo s fd ⟨us, []⟩ (ps.zip (us ++ ds)) := hb s us KX (by rw [← (r.append hd).length]; exact F.len _ _ _ _ q)

/-- f(e, ..) -/
theorem pe_gcall (F : Gd X.prog X.w X.K X.mg X.base CX k f fd ps sp) (rm : Room k X.A) (gd : X.A.guards = some []) (gl : Gl X x) (at_ : X.mg x = some (.ref f)) (kp : PySem.W.keepIn X.K (.ref f) = true) (hb : Binds X.K fd ps ds) (hd : Vals dvs ds) (hx : Passes CX X E)
    (ha : PA X (e :: es) t) (hdb : (x == ("__debug__" : Str)) = false := by decide) (he : starEach (e :: es) X.env = (false, eval e X.env) :: starEach es X.env := by rfl) (hpl : (backTo pos (starEach es X.env)).any (·.1) = false := by rfl) :
    PE X (.Call (.Name x p) (e :: es) [] pos) (tCall sp dvs E t) :=
  ⟨fun pins s σ H Q I h => wpAny_Call_Name_kw (ld_glob I gl at_ (PySem.W.callWith_K (h₀ := X.base) I.ok.mod.kin kp
    (thn (ha.run pos pins s σ H _ I h) fun us s1 ⟨vs, H1, J, r, q⟩ => ⟨J.kIn, run_g F rm gd hx J (bind_pos F hb hd J.kIn r q) (r.append hd) q⟩) he hpl) hdb)⟩
/-- f() -/
theorem pe_gcall0 (F : Gd X.prog X.w X.K X.mg X.base CX k f fd ps sp) (rm : Room k X.A) (gd : X.A.guards = some []) (gl : Gl X x) (at_ : X.mg x = some (.ref f)) (kp : PySem.W.keepIn X.K (.ref f) = true) (hb : Binds X.K fd ps ds) (hd : Vals dvs ds) (hx : Passes CX X E)
    (hdb : (x == ("__debug__" : Str)) = false := by decide) : PE X (.Call (.Name x p) [] [] pos) (tCall sp dvs E tNil) :=
  ⟨fun pins s σ H Q I h => wpAny_Call_Name_kw (ld_glob I gl at_ (PySem.W.callWith_K0 I.kIn kp (run_g (us := []) (vs := dvs) F rm gd hx I (bind_pos (vs := []) F hb hd I.kIn .nil h) (Vals.append .nil hd) h)) hdb)⟩
/-- o.m(e, ..) -/
theorem pe_gmeth {pl : Sem Bool} (he : PE X o ta) (c : Cls X.K C) (hm : Meth X.K C m f) (F : Gd X.prog X.w X.K X.mg X.base CX k f fd ps sp) (rm : Room k X.A) (gd : X.A.guards = some []) (hb : Binds X.K fd ps ds) (hd : Vals dvs ds) (hx : Passes CX X E) (ha : PA X (e :: es) t)
    (hst : starEach (e :: es) X.env = (false, eval e X.env) :: starEach es X.env := by rfl) (hpl : (backTo pos (starEach es X.env)).any (·.1) = false := by rfl)
    (ht : eval (.Call (.Attribute o m apos) (e :: es) [] pos) X.env = (do
      let w ← eval o X.env
      standAt apos.atName
      let (g, a) ← holding [w] (getMethod w m pl)
      callWith pos g a (backTo pos (starEach (e :: es) X.env)) (backToKw pos (keywordEach [] X.env))) := by rfl) :
    PE X (.Call (.Attribute o m apos) (e :: es) [] pos) (tMeth C m sp dvs E ta t) := by
  refine ⟨fun pins s σ H Q I h => PySem.W.methodCall_KW (pl := pl) (thn (he.run pins s σ H _ I h) fun u s1 ⟨y, H1, I1, ry, a, dx, fs, ey, ea, l, q⟩ => ?_) ht⟩
  subst ey
  obtain rfl : u = Value.ref a := ry
  refine getmeth_ok I1 ea c hm l (PySem.W.callWith_K (first := [.ref a]) (h₀ := X.base) I.ok.mod.kin hm.kp (thn (ha.run pos pins s1 σ H1 _ I1 q) fun us s2 ⟨vs, H2, J, r, q2⟩ => ⟨J.kIn, ?_⟩) hst hpl)
  have r1 : Vals (V.ref a :: vs) (Value.ref a :: us) := .cons rfl r
  exact run_g F rm gd hx J (bind_pos F hb hd J.kIn r1 q2) (r1.append hd) q2
/-- o.m() -/
theorem pe_gmeth0 {pl : Sem Bool} (he : PE X o ta) (c : Cls X.K C) (hm : Meth X.K C m f) (F : Gd X.prog X.w X.K X.mg X.base CX k f fd ps sp) (rm : Room k X.A) (gd : X.A.guards = some []) (hb : Binds X.K fd ps ds) (hd : Vals dvs ds) (hx : Passes CX X E)
    (ht : eval (.Call (.Attribute o m apos) [] [] pos) X.env = (do
      let w ← eval o X.env
      standAt apos.atName
      let (g, a) ← holding [w] (getMethod w m pl)
      callWith pos g a (backTo pos (starEach [] X.env)) (backToKw pos (keywordEach [] X.env))) := by rfl) :
    PE X (.Call (.Attribute o m apos) [] [] pos) (tMeth C m sp dvs E ta tNil) := by
  refine ⟨fun pins s σ H Q I h => PySem.W.methodCall_KW (pl := pl) (thn (he.run pins s σ H _ I h) fun u s1 ⟨y, H1, J, ry, a, dx, fs, ey, ea, l, q⟩ => ?_) ht⟩
  subst ey
  obtain rfl : u = Value.ref a := ry
  have r1 : Vals [V.ref a] [Value.ref a] := .cons rfl .nil
  exact getmeth_ok J ea c hm l (PySem.W.callWith_K0 (first := [.ref a]) J.kIn hm.kp (run_g (us := [.ref a]) F rm gd hx J (bind_pos (vs := [.ref a]) F hb hd J.kIn r1 q) (r1.append hd) q))

/-- some of a list, by places -/
def sel {α : Type} (is : List Nat) (l : List α) : List α := is.filterMap fun i => l[i]?
theorem sel_vals : ∀ (is : List Nat) {vs : List V} {us : List Value}, Vals vs us → Vals (sel is vs) (sel is us)
  | [], _, _, _ => .nil
  | i :: is, vs, us, r => by
    have ih := sel_vals is r
    unfold sel at ih ⊢
    rw [List.filterMap_cons, List.filterMap_cons]
    cases h : vs[i]? with
    | none => rw [r.none_of h]; exact ih
    | some v =>
      obtain ⟨u, e, rv⟩ := r.get h
      rw [e]
      exact .cons rv ih
/-- keywords behind n values: the keywords' values in the order of is -/
theorem kbn_of {K : PySem.W.Frag} {qual : Str} {st : Stmt} (F : Fun K x qual st f fd) (n : Nat) (ks : List Str) (is : List Nat)
    (h : ∀ (kV doc pm : Value) (an : Option Addr) (cdv ct : Value) (us ws : List Value), us.length = n → ws.length = ks.length →
      bindArgs (PySem.W.fnOf x qual (defArgs st) (defBody st) (defScope st) .none kV doc pm an cdv ct) ⟨us, ks.zip ws⟩ = pure (ps.zip (us ++ sel is ws))) :
    KBn K fd ps n ks (fun us ws => us ++ sel is ws) (fun vs zs => vs ++ sel is zs) := by
  obtain ⟨oc, od, kV, doc, pm, an, cdv, ct, osl, rfl, _, _⟩ := F.ex
  exact ⟨fun s us ws _ l1 l2 => .of_eq (h kV doc pm an cdv ct us ws l1 l2), fun r rz => r.append (sel_vals is rz)⟩
variable {n : Nat} {g : List Value → List Value → List Value} {gV : List V → List V → List V}
/-- o.m(k = v, ..) -/
def tMethK (C : Addr) (m : Str) (j : Nat) (sp : Sp) (gV : List V → List V → List V) (E : XK) (ta : TE) (tk : TA) : TE := fun σ H Q => ta σ H fun x H1 => ∃ a dx fs, x = .ref a ∧ H1 a = some (.ins C dx fs) ∧ fs.lookup m = none ∧
  tk σ H1 fun zs H2 => zs.length = j ∧ sp (gV [x] zs) H2 Q E
theorem pe_gmethK {pl : Sem Bool} (he : PE X o ta) (c : Cls X.K C) (hm : Meth X.K C m f) (F : Gd X.prog X.w X.K X.mg X.base CX k f fd ps sp) (rm : Room k X.A) (gd : X.A.guards = some []) (hb : KBn X.K fd ps 1 ks g gV) (hx : Passes CX X E) (hkw : PK X kws tk)
    (hall : (backToKw pos (keywordEach kws X.env)).all (·.1.isSome) = true := by rfl) (hks : (backToKw pos (keywordEach kws X.env)).filterMap (·.1) = ks := by rfl)
    (hpl : ((backTo pos (starEach [] X.env)).any (·.1) || (backToKw pos (keywordEach kws X.env)).any (·.1.isNone)) = false := by rfl)
    (ht : eval (.Call (.Attribute o m apos) [] kws pos) X.env = (do
      let w ← eval o X.env
      standAt apos.atName
      let (g, a) ← holding [w] (getMethod w m pl)
      callWith pos g a (backTo pos (starEach [] X.env)) (backToKw pos (keywordEach kws X.env))) := by rfl) :
    PE X (.Call (.Attribute o m apos) [] kws pos) (tMethK C m ks.length sp gV E ta tk) := by
  refine ⟨fun pins s σ H Q I h => PySem.W.methodCall_KW (pl := pl) (thn (he.run pins s σ H _ I h) fun u s1 ⟨y, H1, I1, ry, a, dx, fs, ey, ea, l, q⟩ => ?_) ht⟩
  subst ey
  obtain rfl : u = Value.ref a := ry
  refine getmeth_ok I1 ea c hm l (PySem.W.callWith_KW0 (first := [.ref a]) (h₀ := X.base) I.ok.mod.kin hm.kp hall (thn (hkw.run pos pins s1 σ H1 _ I1 q) fun ws s2 ⟨zs, H2, J, rz, lz, q2⟩ => ⟨J.kIn, ?_⟩) hpl)
  rw [hks]
  have r1 : Vals [V.ref a] [Value.ref a] := .cons rfl .nil
  exact run_g (us := [.ref a]) F rm gd hx J (hb.to s2 [.ref a] ws J.kIn rfl (rz.length.symm.trans lz)) (hb.rel r1 rz) q2

/-! ### new instances -/
theorem und_make {A : Around} {us : List Value} {kw : List (Str × Value)} : (A.under (.builtin "type.__call__" ⟨.ref C :: us, kw⟩)).guards = A.guards := by
  first | rfl | simp [Around.under, Code.guards, Code.isGuard, guardIds, pushGuards]
theorem run_gmake {pins : List (Addr × Obj)} {σ : L2.St} {H : Hp} {s : Shared} {Q : VK} {us : List Value} {kw : List (Str × Value)} (gW : Value → List Value) (gZ : V → List V) (M : Mk X.K C f) (F : Gd X.prog X.w X.K X.mg X.base CX k f fd ps sp) (rm : Room (k + 1) X.A) (gd : X.A.guards = some [])
    (hb : ∀ (s : Shared) (y : Addr), X.K.In s.heap → BindsTo s fd ⟨.ref y :: us, kw⟩ (ps.zip (gW (.ref y)))) (hv : ∀ y : Addr, Vals (gZ (.ref y)) (gW (.ref y)))
    (hx : Passes CX X E) (I : Inv X pins σ H s)
    (h : ∀ y dy, H y = none → H dy = none → dy ≠ y → sp (gZ (.ref y)) (upd (upd H dy (.own y)) y (.ins C dy [])) (fun v H2 => v = .non ∧ Q (.ref y) H2) E) :
    wpAny (model X.prog X.w) X.A (call (.ref C) us kw) (EP X pins σ Q) X.xe s := by
  have hq := h (s.heap.objs.size + 1) s.heap.objs.size (I.hok.fresh (Nat.le_succ _)) (I.hok.fresh (Nat.le_refl _)) (Nat.ne_of_lt (Nat.lt_succ_self _))
  have J := Inv.made (C := C) I
  refine wpAny_call (make_map (f := f) I.kIn M.makes M.init (beq_iff_eq.mp M.fn) (codeAny_mono (F.go _ X.stack _ _ ⟨Value.ref (s.heap.objs.size + 1) :: us, kw⟩ _ _ _ E (rm.make C us kw)
    (und_make.trans gd) (J.env0.make C us kw) (hb _ (s.heap.objs.size + 1) J.kIn) (hv _) hq) fun out s' hq' => ?_))
  match out, hq' with
  | .error e, hq' => exact hx pins σ _ _ e s' J hq'
  | .ok (.ret u), hq' =>
    obtain ⟨v, H', I3, rv, ev, q3⟩ := J.after hq'
    subst ev
    exact ⟨rv, ⟨V.ref (s.heap.objs.size + 1), H', I3, rfl, q3⟩⟩
/-- C(e, ..) -/
theorem pe_gmake (M : Mk X.K C f) (F : Gd X.prog X.w X.K X.mg X.base CX k f fd ps sp) (rm : Room (k + 1) X.A) (gd : X.A.guards = some []) (gl : Gl X x) (at_ : X.mg x = some (.ref C)) (hb : Binds X.K fd ps ds) (hd : Vals dvs ds) (hx : Passes CX X E)
    (ha : PA X (e :: es) t) (hdb : (x == ("__debug__" : Str)) = false := by decide) (he : starEach (e :: es) X.env = (false, eval e X.env) :: starEach es X.env := by rfl) (hpl : (backTo pos (starEach es X.env)).any (·.1) = false := by rfl) :
    PE X (.Call (.Name x p) (e :: es) [] pos) (tMake C sp dvs E t) := by
  refine ⟨fun pins s σ H Q I h => wpAny_Call_Name_kw (ld_glob I gl at_ (PySem.W.callWith_K (h₀ := X.base) I.ok.mod.kin M.kp (thn (ha.run pos pins s σ H _ I h) fun us s1 ⟨vs, H1, J, r, q⟩ => ⟨J.kIn, ?_⟩) he hpl) hdb)⟩
  have rr : ∀ y : Addr, Vals (V.ref y :: vs ++ dvs) (Value.ref y :: us ++ ds) := fun y => .cons rfl (r.append hd)
  have hl : ∀ y : Addr, (Value.ref y :: us ++ ds).length = ps.length := fun y => by
    have e := (rr y).length
    have q1 := q (s1.heap.objs.size + 1) s1.heap.objs.size (J.hok.fresh (Nat.le_succ _)) (J.hok.fresh (Nat.le_refl _)) (Nat.ne_of_lt (Nat.lt_succ_self _))
    have e1 := F.len _ _ _ _ q1
    rw [← e, ← e1]
    simp
  exact run_gmake (fun y => y :: us ++ ds) (fun y => y :: vs ++ dvs) M F rm gd (fun s y KX => hb s (.ref y :: us) KX (hl y)) rr hx J q
/-- C(k = v, ..) -/
def tMakeKG (C : Addr) (j : Nat) (sp : Sp) (gV : List V → List V → List V) (E : XK) (tk : TA) : TE := fun σ H Q => tk σ H fun zs H2 => zs.length = j ∧
  ∀ x dx, H2 x = none → H2 dx = none → dx ≠ x → sp (gV [.ref x] zs) (upd (upd H2 dx (.own x)) x (.ins C dx [])) (fun v H3 => v = .non ∧ Q (.ref x) H3) E
theorem pe_gmakeK (M : Mk X.K C f) (F : Gd X.prog X.w X.K X.mg X.base CX k f fd ps sp) (rm : Room (k + 1) X.A) (gd : X.A.guards = some []) (gl : Gl X x) (at_ : X.mg x = some (.ref C)) (hb : KBn X.K fd ps 1 ks g gV) (hx : Passes CX X E)
    (hkw : PK X kws tk) (hall : (backToKw pos (keywordEach kws X.env)).all (·.1.isSome) = true := by rfl) (hks : (backToKw pos (keywordEach kws X.env)).filterMap (·.1) = ks := by rfl)
    (hdb : (x == ("__debug__" : Str)) = false := by decide)
    (hpl : ((backTo pos (starEach [] X.env)).any (·.1) || (backToKw pos (keywordEach kws X.env)).any (·.1.isNone)) = false := by rfl) :
    PE X (.Call (.Name x p) [] kws pos) (tMakeKG C ks.length sp gV E tk) := by
  refine ⟨fun pins s σ H Q I h => wpAny_Call_Name_kw (ld_glob I gl at_ (PySem.W.callWith_KW0 (first := []) (h₀ := X.base) I.ok.mod.kin M.kp hall (thn (hkw.run pos pins s σ H _ I h) fun ws s2 ⟨zs, H2, J, rz, lz, q2⟩ => ⟨J.kIn, ?_⟩) hpl) hdb)⟩
  rw [hks]
  exact run_gmake (us := []) (fun y => g [y] ws) (fun y => gV [y] zs) M F rm gd (fun s y KX => hb.to s [.ref y] ws KX rfl (rz.length.symm.trans lz)) (fun y => hb.rel (.cons rfl .nil) rz) hx J q2
end
end KG

set_option Elab.async false
set_option linter.all false
set_option maxRecDepth 100000
set_option maxHeartbeats 4000000
/-! KR: the end of a law over such promises; repr of data, str of an own object, == and != by an own __eq__. -/
namespace KG
open PySem PySem.Spec PyProof.Rows L2

/-! ### the end: the law's def is called where nothing is shown -/
theorem law_gd {P : Program} {w : World} {K : PySem.W.Frag} {mg mb : Str → Option Value} {CX : CXT} {k : Nat} {fa a : Addr} {fd : FuncData} {x : Str} {sp : Sp} {s1 : Shared} {vs : List Value} {ns : List Int}
    (kin : K.In s1.heap) (nsm : s1.heap.Ns mainGlobals mg) (nsb : s1.heap.Ns builtinsNs mb) (mbb : ∀ x : Str, x ≠ "__name__" → mb x = bootBuiltins x) (lim : s1.heap.NoLimit) (nog : s1.gens = #[])
    (atA : s1.heap.get? a = some { cls := .type "list", data := .seq vs.toArray }) (isn : IntsAre vs ns) (small : ns.length ≤ sizeLine) (rm : Room k callerA)
    (F : ∀ base : Heap, K.In base → base.Ns mainGlobals mg → Gd P w K mg base CX k fa fd [x] sp) (bt : ∀ (s : Shared) (u : Value), BindsTo s fd ⟨[u], []⟩ [(x, u)])
    (start_ : ∀ H : Hp, Only H → SqL K H a (ns.map V.int) → sp [.ref a] H (fun v _ => v = .bl true) fun _ _ _ => False)
    (quiet : ∀ H e s', CX [] H s1 (fun _ _ _ => False) e s' → False) :
    codeAny (model P w) callerA (.call (.ref fa) ⟨[.ref a], []⟩) (fun r s' => r = .ok (.ret (.bool true)) ∧ OldK s1.heap s'.heap ∧ s'.os = s1.os ∧ AllBare s'.gens) s1 := by
  have rv := vals_ints isn
  have vlen := isn.length
  have from_ : ∀ H : Hp, Only H → SqL K H a (ns.map V.int) → HOk P w H s1.heap → (∀ b, H b ≠ none → b = a) → (H a ≠ none → K.lookup a = none) →
      codeAny (model P w) callerA (.call (.ref fa) ⟨[.ref a], []⟩) (fun r s' => r = .ok (.ret (.bool true)) ∧ OldK s1.heap s'.heap ∧ s'.os = s1.os ∧ AllBare s'.gens) s1 := by
    intro H only sq hok onlyA notK
    have free_of : ∀ {b : Addr} {o : Obj}, (H b ≠ none → b = a → False) → H b = none := fun {b o} h => by
      by_cases z : H b = none
      · exact z
      · exact (h z (onlyA b z)).elim
    have dict_free : ∀ {b : Addr} {o : Obj} {es : Array DictEntry} {ep : Nat}, s1.heap.get? b = some o → o.data = .dict es ep → H b = none := fun {b o es ep} e d =>
      free_of (o := o) fun _ eb => by
        rw [eb, atA] at e
        cases e
        exact nomatch d
    have ns_hid : ∀ {b : Addr} {m : Str → Option Value}, s1.heap.Ns b m → (hidT s1.heap H).Ns b m :=
      fun {b m} ⟨o, es, ep, e, d, r⟩ => ⟨o, es, ep, hidT_get e (dict_free e d), d, r⟩
    have kin_hid : K.In (hidT s1.heap H) := fun b o e => hidT_get (kin b o e) (free_of (o := o) fun z eb => by
      rw [eb] at e z
      rw [notK z] at e
      cases e)
    have mod : Mod K mg (hidT s1.heap H) := ⟨kin_hid, ns_hid nsm, ⟨mb, ns_hid nsb, mbb⟩, lim.elim fun mc h => ⟨mc, ns_hid h.1, h.2⟩⟩
    have e0 : Env0 P w K mg (hidT s1.heap H) callerA [] s1 H := ⟨rfl, mod, fun b o e => of_hidT e, Nat.le_of_eq (hidT_size _ _), trivial, fun b hb => absurd (show b ∈ ([] : List Addr) from hb) List.not_mem_nil, hok, .of_eq nog⟩
    refine codeAny_mono ((F _ kin_hid (ns_hid nsm)).go callerA [] s1 H ⟨[.ref a], []⟩ [.ref a] [.ref a] _ _ rm rfl e0 (bt s1 (.ref a)) (.cons rfl .nil) (start_ H only sq)) fun r s' h => ?_
    match r, h with
    | .error e, h => exact (quiet H e s' h).elim
    | .ok (.ret u), h =>
      obtain ⟨v, H', os, bare, un, hok', r', q⟩ := h
      have q' : v = .bl true := q
      subst q'
      obtain rfl : u = Value.bool true := r'
      refine ⟨rfl, OldK.of_keep fun b o e => ?_, os, bare⟩
      cases z : H b with
      | none => exact un.keep b o e z (by intro y; cases y) (by simp)
      | some t =>
        rcases only b with y | ⟨ob, xs, y⟩
        · rw [z] at y
          cases y
        · have y2 := un.frzs b ob _ y
          obtain ⟨g1, _⟩ := hok b _ y
          obtain ⟨g2, _⟩ := hok' b _ y2
          rw [e] at g1
          cases g1
          exact g2
  cases hk : K.lookup a with
  | some o =>
    have e := kin a o hk
    rw [atA] at e
    cases e
    exact from_ (fun _ => none) (fun _ => .inl rfl) (.inr ⟨_, vs.toArray, _, hk, rfl, rfl, rfl, by rw [List.size_toArray, vlen]; exact small, by simpa using rv⟩) (fun b u z => by cases z) (fun b z => absurd rfl z) fun z => absurd rfl z
  | none =>
    have at_a : ∀ {b : Addr} {u : HO}, (if b = a then some (HO.frz { cls := .type "list", data := .seq vs.toArray } (.lst (ns.map V.int))) else none) = some u → b = a := fun {b u} z => by
      by_cases hb : b = a
      · exact hb
      · rw [if_neg hb] at z
        cases z
    refine from_ (fun b => if b = a then some (.frz { cls := .type "list", data := .seq vs.toArray } (.lst (ns.map V.int))) else none) (fun b => ?_) (.inl (.inr ⟨{ cls := .type "list", data := .seq vs.toArray }, if_pos rfl⟩)) (fun b u z => ?_) (fun b z => ?_) fun _ => hk
    · by_cases hb : b = a
      · exact .inr ⟨_, _, if_pos hb⟩
      · exact .inl (if_neg hb)
    · obtain rfl := at_a z
      have z' := (if_pos rfl).symm.trans z
      cases z'
      exact ⟨atA, by rw [List.length_map]; exact small, vs, _, rv, atA⟩
    · by_cases hb : b = a
      · exact hb
      · exact absurd (if_neg hb) z

/-- the law's walk, from its promise where nothing is shown -/
theorem walk_gd {l : PySem.W.OpenLaw} {n k : Nat} {q : Program} {loose : List Str} {XP : (Str → Option Value) → Heap → Prop} {YP : World → Heap → Prop} {d : DefRec} {K : Params → PySem.W.Frag} {CX : World → CXT} {sp : World → Sp} {x : Str}
    (most : l.most = some n) (n2 : n ≤ sizeLine) (nod : d.params.defaults = []) (rm : Room k callerA)
    (hY : ∀ (w : World) (h : Heap), YP w h → (K w.params).In h)
    (F : ∀ (w : World) (mg : Str → Option Value) (fa : Addr) (h : Heap), (K w.params).In h → h.Ns mainGlobals mg → mg d.name = some (.ref fa) →
      ∃ fd : FuncData, (∀ (s : Shared) (u : Value), BindsTo s fd ⟨[u], []⟩ [(x, u)]) ∧
        ∀ base : Heap, (K w.params).In base → base.Ns mainGlobals mg → Gd l.prog w (K w.params) mg base (CX w) k fa fd [x] (sp w))
    (start_ : ∀ (w : World) (H : Hp) (a : Addr) (ns : List Int), ns.length ≤ n → Only H → SqL (K w.params) H a (ns.map V.int) → sp w [.ref a] H (fun v _ => v = .bl true) fun _ _ _ => False)
    (quiet : ∀ (w : World) (H : Hp) (s : Shared) (e : Value) (s' : Shared), CX w [] H s (fun _ _ _ => False) e s' → False) :
    PySem.W.WalkO q loose XP YP l.row.toRowW d [] (fun f vs => PySem.call f vs) := by
  refine Att.attach_call most nod fun w s0 s1 mg mb fa o pm cd doc a vs ns G Y ho hd hcd hmg hobj hints hlen hg => ?_
  have kin := hY w _ Y
  obtain ⟨fd, hb, hF⟩ := F w mg fa _ kin G.T.g hmg
  exact law_gd kin G.T.g G.T.b G.T.builtins G.T.nolimit hg hobj hints (Nat.le_trans hlen n2) rm hF hb (fun H hO hS => start_ w H a ns hlen hO hS) fun H e s' => quiet w H s1 e s'

/-- .. where the promise hangs on the written part alone -/
theorem walk_gdK {l : PySem.W.OpenLaw} {n k : Nat} {q : Program} {loose : List Str} {XP : (Str → Option Value) → Heap → Prop} {YP : World → Heap → Prop} {d : DefRec} {K : Params → PySem.W.Frag} {CX : CXT} {sp : PySem.W.Frag → Sp} {x : Str}
    (most : l.most = some n) (n2 : n ≤ sizeLine) (nod : d.params.defaults = []) (rm : Room k callerA)
    (hY : ∀ (w : World) (h : Heap), YP w h → (K w.params).In h)
    (F : ∀ (w : World) (mg : Str → Option Value) (fa : Addr) (h : Heap), (K w.params).In h → h.Ns mainGlobals mg → mg d.name = some (.ref fa) →
      ∃ fd : FuncData, (∀ (s : Shared) (u : Value), BindsTo s fd ⟨[u], []⟩ [(x, u)]) ∧
        ∀ base : Heap, (K w.params).In base → base.Ns mainGlobals mg → Gd l.prog w (K w.params) mg base CX k fa fd [x] (sp (K w.params)))
    (start_ : ∀ (K : PySem.W.Frag) (H : Hp) (a : Addr) (ns : List Int), ns.length ≤ n → Only H → SqL K H a (ns.map V.int) → sp K [.ref a] H (fun v _ => v = .bl true) fun _ _ _ => False)
    (quiet : ∀ (H : Hp) (s : Shared) (e : Value) (s' : Shared), CX [] H s (fun _ _ _ => False) e s' → False) :
    PySem.W.WalkO q loose XP YP l.row.toRowW d [] (fun f vs => PySem.call f vs) :=
  walk_gd (K := K) (CX := fun _ => CX) (sp := fun w => sp (K w.params)) most n2 nod rm hY F (fun w H a ns h1 h2 h3 => start_ (K w.params) H a ns h1 h2 h3) fun _ H s e s' => quiet H s e s'

/-! ### repr of data -/
section
variable {X : Cx}
/-- repr(x), x data: none, bools, ints, texts, lists, tuples -/
def rRepr (K : PySem.W.Frag) : List V → Hp → VK → Prop := fun xs H Q => ∃ x d, xs = [x] ∧ Dp K H x d ∧ d.showable = true ∧ d.hasDict = false ∧ d.depth ≤ 40 ∧ d.shown.length ≤ sizeLine ∧ Q (.str d.shown) H
theorem call_repr {k : Nat} (rm : Room k X.A) (gd : X.A.guards = some []) : CallR X (.builtin "repr") (rRepr X.K) := by
  intro pins s σ H xs us Q I r h
  obtain ⟨x, d, rfl, hd, sh, nd, dp, sz, q⟩ := h
  obtain ⟨u, rfl, r1⟩ := vals1 r
  obtain ⟨as, rd⟩ := Dp.reads I d x u hd r1
  have room := rm.units
  have fin : ∀ (s' : Shared) (tk : Tok), Inv X pins σ H s' → EP X pins σ Q (.str d.shown tk) s' := fun s' tk J => ⟨.str d.shown, H, J, ⟨tk, rfl⟩, q⟩
  have intsz : ∀ i : Int, d = .int i → i.natAbs.log2 < 1920 := fun i e => by
    subst e
    simpa [PyData.showable] using sh
  cases hd with
  | non =>
    cases r1
    rw [PyData.shown_none] at q
    exact PySem.P.repr_of_none ⟨.str _, H, I.tok _, ⟨_, rfl⟩, q⟩
  | bl b =>
    cases r1
    rw [PyData.shown_bool] at q
    exact PySem.P.repr_of_bool ⟨.str _, H, I.tok _, ⟨_, rfl⟩, by cases b <;> exact q⟩
  | int i =>
    obtain ⟨t, rfl⟩ := r1
    rw [PyData.shown_int] at q
    exact PySem.P.repr_of_int (intsz i rfl) ⟨.str _, H, I.tok _, ⟨_, rfl⟩, q⟩
  | str z =>
    obtain ⟨t, rfl⟩ := r1
    rw [PyData.shown_str] at q sz
    exact PySem.P.repr_of_str ⟨.str _, H, I.tok _, ⟨_, rfl⟩, q⟩ sz
  | lst _ _ =>
    cases r1
    exact repr_of_reads' rd sh (fun z => by rw [nd] at z; cases z) gd (by omega) (fun _ _ z => z) (fun h' u tk keep => fin _ _ (I.kept (t' := tk) keep)) sz
  | tup _ _ =>
    cases r1
    exact repr_of_reads' rd sh (fun z => by rw [nd] at z; cases z) gd (by omega) (fun _ _ z => z) (fun h' u tk keep => fin _ _ (I.kept (t' := tk) keep)) sz
end

/-! ### str(o), o an own object with its own __str__ -/
section
variable {X : Cx} {CX : CXT} {k : Nat} {f C : Addr} {fd : FuncData} {ps : List Str} {sp : Sp} {E : XK}
theorem in1_gd {A : Around} (h : A.guards = some []) : A.in1.guards = some [] := h
def rStrO (C : Addr) (sp : Sp) (E : XK) : List V → Hp → VK → Prop := fun xs H Q => ∃ a dx fs, xs = [.ref a] ∧ H a = some (.ins C dx fs) ∧ sp [.ref a] H (fun v H' => ∃ z, v = .str z ∧ Q (.str z) H') E
theorem call_strO (F : Gd X.prog X.w X.K X.mg X.base CX k f fd ps sp) (rm : Room (k + 2) X.A) (gd : X.A.guards = some []) (hs : PySem.W.findIn X.K (.ref C) "__str__" = some (some (.ref f))) (hf : PySem.W.isFn X.K (.ref f) = true)
    (hb : Binds X.K fd ps []) (hx : Passes CX X E) : CallR X (.type "str") (rStrO C sp E) := by
  intro pins s σ H xs us Q I r h
  obtain ⟨a, dx, fs, rfl, ea, q⟩ := h
  obtain ⟨u, rfl, r1⟩ := vals1 r
  obtain rfl : u = Value.ref a := r1
  obtain ⟨mA, J, _⟩ := ins_get I.hok ea
  obtain ⟨od, J, _⟩ := J.look
  have room := rm.units
  refine PySem.W.kso_call (by show X.A.units + 1 + 1 < cLine; omega) I.kIn J hs hf ?_
  have r2 : Vals [V.ref a] [Value.ref a] := .cons rfl .nil
  have bt := bind_pos (dvs := []) (vs := [V.ref a]) F hb .nil I.kIn r2 q
  refine wpAny_mono (run_at (us := [.ref a]) F rm.in1.in1 (in1_gd (in1_gd gd)) I.env0.in1.in1 (fun e s' hq => hx pins σ H s e s' I hq) I bt r2 q) (fun v s' hv => ?_) fun _ _ z => z
  obtain ⟨z, H', J', rz, y, ey, q'⟩ := hv
  subst ey
  obtain ⟨t, rfl⟩ := rz
  exact ⟨.str y, H', J', ⟨t, rfl⟩, q'⟩

/-! ### == and != by an own __eq__ -/
theorem ne_bound {M : Model} {A : Around} {W : Value → Shared → Prop} {s : Shared} {K : PySem.W.Frag} {x C : Addr} {ox : Obj} {od : Option Obj} {args : List Value} {Q : Option Value → Shared → Prop} (kin : K.In s.heap) (J : PySem.W.InstAt s.heap x ox C od)
    (hs : PySem.W.findIn K (.ref C) "__ne__" = some (some (.builtin "object.__ne__"))) (h : wpAny M A (call (.builtin "object.__ne__") (.ref x :: args)) (fun v => Q (some v)) W s) :
    wpAny M A (callSpecialIfBound? (.ref x) "__ne__" args) Q W s := by
  simp only [callSpecialIfBound?, bindSpecialIfBound?]
  refine wpAny_holding (wpAny_bind (wpAny_bind (wpAny_bind (J.type.here ((PySem.W.looks_findIn kin hs).here ?_)))))
  refine wpAny_bind (wpAny_askSetting (wpAny_ite ?_))
  have last : wpAny M A (call (.builtin "object.__ne__") ([.ref x] ++ args) >>= fun v => pure (some v)) Q W s :=
    wpAny_bind (wpAny_mono h (fun v s' z => wpAny_pure z) fun _ _ z => z)
  split
  · exact wpAny_bind (wpAny_of_eq (F.cmp_object.ne.bind _) (wpAny_pure (by exact last)))
  · exact wpAny_tryCatch (wpAny_bind (wpAny_of_eq (F.cmp_object.ne.bind _) (wpAny_pure (by exact last))))
theorem ne_own {prog : Program} {w : World} {A : Around} {W : Value → Shared → Prop} {s : Shared} {K : PySem.W.Frag} {x C f : Addr} {ox : Obj} {od : Option Obj} {b tb : Value} {Q : Value → Shared → Prop} (hu : A.units + 1 < cLine) (kin : K.In s.heap) (J : PySem.W.InstAt s.heap x ox C od)
    (hb : PySem.W.Looks (model prog w) s.heap (typeOf b) tb) (hn : PySem.W.notFirst K C tb = true) (hm : PySem.W.mroIn K C (.type "object") = some true)
    (hs : PySem.W.findIn K (.ref C) "__ne__" = some (some (.builtin "object.__ne__"))) (he : PySem.W.findIn K (.ref C) "__eq__" = some (some (.ref f))) (hf : PySem.W.isFn K (.ref f) = true)
    (h : wpAny (model prog w) A.in1 (call (.ref f) [.ref x, b]) (fun v s' => ∃ c, v = .bool c ∧ Q (.bool (!c)) s') W s) : wpAny (model prog w) A (richCompare .NotEq (.ref x) b) Q W s := by
  have one : wpAny (model prog w) A (tryCompare (.ref x) "__ne__" b) (fun r s' => ∃ v, r = some v ∧ Q v s') W s := by
    unfold tryCompare
    refine wpAny_bind (ne_bound kin J hs (wpAny_call (codeAny_call_builtin F.cmp_object.ne.plain F.cmpEntry_ne
      (PySem.W.check_slot F.cmpKind_ne F.cmpSplit_ne (J.type.andThen (PySem.W.looks_mroIn kin hm)) (F.cmpArgs_ne _ _) ?_))))
    show wpAny _ _ (Builtin.«object.__ne__» ⟨[.ref x, b], []⟩) _ _ s
    unfold Builtin.«object.__ne__»
    refine wpAny_bind (m := slotArgs "__ne__" 1 _) (wpAny_pure ?_)
    refine wpAny_bind (wpAny_cRoomFor (by show A.units + 1 < cLine; omega) ?_)
    refine wpAny_bind (m := callSpecialIfBound? (.ref x) (Str.ofString "__eq__") [b]) (PySem.W.ifBound_K kin J he hf (wpAny_mono h (fun v s' hv => ?_) fun _ _ z => z))
    obtain ⟨c, rfl, q⟩ := hv
    refine wpAny_bind (wpAny_truthy_bool ?_)
    exact wpAny_pure (wpAny_pure ⟨_, rfl, q⟩)
  unfold richCompare
  simp only [oneThing_ref]
  refine wpAny_holding (wpAny_bind (wpAny_cRoomFor (by omega) ?_))
  refine wpAny_bind (J.type.here (wpAny_bind (hb.here ?_)))
  split
  · rename_i q
    have e : PySem.W.subIn K tb (.ref C) = some false := by
      rcases Bool.or_eq_true_iff.mp hn with e | e
      · rw [beq_iff_eq.mp e] at q
        simp at q
      · exact beq_iff_eq.mp e
    refine wpAny_bind ((PySem.W.looks_subIn kin e).here ?_)
    simp only [Bool.false_eq_true, if_false]
    refine wpAny_bind (m := tryCompare (.ref x) _ b) (wpAny_mono one (fun r s' z => ?_) fun _ _ e => e)
    obtain ⟨v, rfl, hq⟩ := z
    exact wpAny_pure hq
  · refine wpAny_bind (wpAny_pure ?_)
    simp only [Bool.false_eq_true, if_false]
    refine wpAny_bind (m := tryCompare (.ref x) _ b) (wpAny_mono one (fun r s' z => ?_) fun _ _ e => e)
    obtain ⟨v, rfl, hq⟩ := z
    exact wpAny_pure hq

/-- o == y, o != y: the own __eq__ answers (y: the same class, or a thing whose type is no class below it) -/
def rEqO (K : PySem.W.Frag) (C : Addr) (neg : Bool) (sp : Sp) (E : XK) : R2 := fun x y H Q => ∃ a dx fs t, x = .ref a ∧ H a = some (.ins C dx fs) ∧ TyX K H y t ∧ PySem.W.notFirst K C t = true ∧
  sp [.ref a, y] H (fun v H' => ∃ c, v = .bl c ∧ Q (.bl (if neg then !c else c)) H') E
theorem op_eqO (F : Gd X.prog X.w X.K X.mg X.base CX k f fd ps sp) (rm : Room k X.A) (gd : X.A.guards = some []) (hs : PySem.W.findIn X.K (.ref C) "__eq__" = some (some (.ref f))) (hf : PySem.W.isFn X.K (.ref f) = true)
    (hb : Binds X.K fd ps []) (hx : Passes CX X E) : OpR X (compareOp .Eq) (rEqO X.K C false sp E) := by
  intro pins s σ H x y v u Q I rx ry h
  obtain ⟨a, dx, fs, t, rfl, ea, ty, nf, q⟩ := h
  obtain rfl : v = Value.ref a := rx
  obtain ⟨mA, J, _⟩ := ins_get I.hok ea
  obtain ⟨od, J, _⟩ := J.look
  obtain ⟨m, fr⟩ := I.fr
  obtain ⟨_, Z, pz, _⟩ := kit_of I ry ty
  have r2 : Vals [V.ref a, y] [Value.ref a, u] := .cons rfl (.cons ry .nil)
  have bt := bind_pos (dvs := []) (vs := [V.ref a, y]) F hb .nil I.kIn r2 q
  refine PySem.W.cmp_K (op := .Eq) rm.units0 fr I.ok.mod.kin J (Z.ty _ _ I.kIn pz) nf hs hf ?_
  refine wpAny_mono (run_g (us := [.ref a, u]) F rm gd hx I bt r2 q) (fun v s' hv => ?_) fun _ _ z => z
  obtain ⟨z, H', J', rz, c, ez, q'⟩ := hv
  subst ez
  obtain rfl : v = Value.bool c := rz
  exact ⟨.bl c, H', J', rfl, q'⟩
theorem op_neO (F : Gd X.prog X.w X.K X.mg X.base CX k f fd ps sp) (rm : Room (k + 1) X.A) (gd : X.A.guards = some []) (hs : PySem.W.findIn X.K (.ref C) "__eq__" = some (some (.ref f))) (hf : PySem.W.isFn X.K (.ref f) = true)
    (hn : PySem.W.findIn X.K (.ref C) "__ne__" = some (some (.builtin "object.__ne__"))) (hm : PySem.W.mroIn X.K C (.type "object") = some true)
    (hb : Binds X.K fd ps []) (hx : Passes CX X E) : OpR X (compareOp .NotEq) (rEqO X.K C true sp E) := by
  intro pins s σ H x y v u Q I rx ry h
  obtain ⟨a, dx, fs, t, rfl, ea, ty, nf, q⟩ := h
  obtain rfl : v = Value.ref a := rx
  obtain ⟨mA, J, _⟩ := ins_get I.hok ea
  obtain ⟨od, J, _⟩ := J.look
  obtain ⟨_, Z, pz, _⟩ := kit_of I ry ty
  have r2 : Vals [V.ref a, y] [Value.ref a, u] := .cons rfl (.cons ry .nil)
  have bt := bind_pos (dvs := []) (vs := [V.ref a, y]) F hb .nil I.kIn r2 q
  have room := rm.units
  refine ne_own (by omega) I.kIn J (Z.ty _ _ I.kIn pz) nf hm hn hs hf ?_
  refine wpAny_mono (run_at (us := [.ref a, u]) F rm.in1 (in1_gd gd) I.env0.in1 (fun e s' hq => hx pins σ H s e s' I hq) I bt r2 q) (fun v s' hv => ?_) fun _ _ z => z
  obtain ⟨z, H', J', rz, c, ez, q'⟩ := hv
  subst ez
  obtain rfl : v = Value.bool c := rz
  exact ⟨c, rfl, .bl (!c), H', J', rfl, q'⟩
end
end KG

set_option Elab.async false
set_option linter.all false
set_option maxRecDepth 100000
set_option maxHeartbeats 4000000
/-! KS: defs, methods and classes by name; the readings' steps, one lemma each, for walk_at "go". -/
namespace KG
open PySem PySem.Spec PyProof.Rows L2

/-! ### defs by name -/
/-- how the arguments of a def of the text bind, by place -/
def BindOk (x qual : Str) (st : Stmt) (ps : List Str) : Prop := ∀ (kV doc pm : Value) (an : Option Addr) (cdv ct : Value) (us : List Value), us.length = ps.length →
  bindArgs (PySem.W.fnOf x qual (defArgs st) (defBody st) (defScope st) .none kV doc pm an cdv ct) ⟨us, []⟩ = pure (ps.zip us)
/-- .. n by place, then by keywords, is: the keywords' places -/
def BindOkK (x qual : Str) (st : Stmt) (ps : List Str) (n : Nat) (ks : List Str) (is : List Nat) : Prop := ∀ (kV doc pm : Value) (an : Option Addr) (cdv ct : Value) (us ws : List Value), us.length = n → ws.length = ks.length →
  bindArgs (PySem.W.fnOf x qual (defArgs st) (defBody st) (defScope st) .none kV doc pm an cdv ct) ⟨us, ks.zip ws⟩ = pure (ps.zip (us ++ sel is ws))
/-- the def st stands under the name x -/
structure DefAt (K : PySem.W.Frag) (mg : Str → Option Value) (x : Str) (st : Stmt) (ps : List Str) : Prop where
  ex : ∃ f fd, mg x = some (.ref f) ∧ Fun K x x st f fd ∧ Binds K fd ps []
theorem defAt_of {K : PySem.W.Frag} {h : Heap} {mg : Str → Option Value} (X : K.In h) (G : h.Ns mainGlobals mg) {x : Str} {st : Stmt} {ps : List Str} {f : Addr} {oc kV doc pm cdv ct : Value} {od an : Option Addr} {sl : Array (Option Value)}
    (a : PySem.W.nsIn K mainGlobals x = some (some (.ref f))) (l : K.lookup f = some ⟨oc, od, .func (PySem.W.fnOf x x (defArgs st) (defBody st) (defScope st) .none kV doc pm an cdv ct), sl⟩)
    (c : PySem.W.codeIn K cdv x = true) (k : PySem.W.keepIn K (.ref f) = true) (b : BindOk x x st ps) : DefAt K mg x st ps :=
  have F := fun_mk (st := st) l c k
  ⟨⟨f, _, PySem.W.mg_of X G a, F, F.binds b⟩⟩
/-- the method st of the class at C -/
structure MetAt (K : PySem.W.Frag) (C : Addr) (m qual : Str) (st : Stmt) (ps : List Str) (f : Addr) : Prop where
  ex : ∃ fd, Meth K C m f ∧ Fun K m qual st f fd ∧ Binds K fd ps []
theorem metAt_of {K : PySem.W.Frag} {C : Addr} {m qual : Str} {st : Stmt} {ps : List Str} {f : Addr} {oc kV doc pm cdv ct : Value} {od an : Option Addr} {sl : Array (Option Value)}
    (a : PySem.W.findIn K (.ref C) m = some (some (.ref f))) (i : PySem.W.isFn K (.ref f) = true) (l : K.lookup f = some ⟨oc, od, .func (PySem.W.fnOf m qual (defArgs st) (defBody st) (defScope st) .none kV doc pm an cdv ct), sl⟩)
    (c : PySem.W.codeIn K cdv qual = true) (k : PySem.W.keepIn K (.ref f) = true) (b : BindOk m qual st ps) : MetAt K C m qual st ps f :=
  have F := fun_mk (st := st) l c k
  ⟨⟨_, ⟨a, i, k⟩, F, F.binds b⟩⟩
/-- the def st, promised sp, nothing raised -/
def Cal (P : Program) (w : World) (K : PySem.W.Frag) (mg : Str → Option Value) (base : Heap) (j : Nat) (x : Str) (sp : Sp) : Prop :=
  ∃ f fd ps, mg x = some (.ref f) ∧ PySem.W.keepIn K (.ref f) = true ∧ Binds K fd ps [] ∧ Gd P w K mg base CX0 j f fd ps sp
def Met (P : Program) (w : World) (K : PySem.W.Frag) (mg : Str → Option Value) (base : Heap) (j : Nat) (C : Addr) (m : Str) (f : Addr) (sp : Sp) : Prop :=
  ∃ fd ps, Meth K C m f ∧ Binds K fd ps [] ∧ Gd P w K mg base CX0 j f fd ps sp
def MetK (P : Program) (w : World) (K : PySem.W.Frag) (mg : Str → Option Value) (base : Heap) (j : Nat) (C : Addr) (m : Str) (f : Addr) (ks : List Str) (is : List Nat) (sp : Sp) : Prop :=
  ∃ fd ps, Meth K C m f ∧ KBn K fd ps 1 ks (fun us ws => us ++ sel is ws) (fun vs zs => vs ++ sel is zs) ∧ Gd P w K mg base CX0 j f fd ps sp
section
variable {P : Program} {w : World} {K : PySem.W.Frag} {mg : Str → Option Value} {base : Heap} {k : Nat} {x m qual : Str} {st : Stmt} {ps N : List Str} {sp : Sp} {C f : Addr}
/-- a def by its body -/
theorem DefAt.cal (D : DefAt K mg x st ps) (sc : FnScope N ps (defScope st)) (len : ∀ vs H Q E, sp vs H Q E → vs.length = ps.length)
    (inner : ∀ (f : Addr) (cdv : Value) (A : Around) (outer : List Env) (s : Shared) (H : Hp) (vs : List V) (Q : VK) (E : XK),
      Room k (A.deeper (envOfC x (defScope st) s.heap.objs.size f cdv)) → (A.deeper (envOfC x (defScope st) s.heap.objs.size f cdv)).guards = some [] → sp vs H Q E →
      ∃ t, PSs (cxOf CX0 P w K mg base N x (defScope st) f cdv A outer s H E).nox (defBody st) t ∧ t { nx := fun _ H' => Q .non H', rt := Q } (start N vs) H) :
    Cal P w K mg base (k + 1) x sp := by
  obtain ⟨f, fd, a, F, b⟩ := D.ex
  exact ⟨f, fd, ps, a, F.kp, b, gd0 F sc len (inner f)⟩
theorem MetAt.gd (D : MetAt K C m qual st ps f) (sc : FnScope N ps (defScope st)) (len : ∀ vs H Q E, sp vs H Q E → vs.length = ps.length)
    (inner : ∀ (cdv : Value) (A : Around) (outer : List Env) (s : Shared) (H : Hp) (vs : List V) (Q : VK) (E : XK),
      Room k (A.deeper (envOfC qual (defScope st) s.heap.objs.size f cdv)) → (A.deeper (envOfC qual (defScope st) s.heap.objs.size f cdv)).guards = some [] → sp vs H Q E →
      ∃ t, PSs (cxOf CX0 P w K mg base N qual (defScope st) f cdv A outer s H E).nox (defBody st) t ∧ t { nx := fun _ H' => Q .non H', rt := Q } (start N vs) H) :
    ∃ fd, Meth K C m f ∧ Fun K m qual st f fd ∧ Binds K fd ps [] ∧ Gd P w K mg base CX0 (k + 1) f fd ps sp := by
  obtain ⟨fd, a, F, b⟩ := D.ex
  exact ⟨fd, a, F, b, gd0 F sc len inner⟩
end
section
variable {X : Cx} {j k : Nat} {x m qual : Str} {sp : Sp} {C f : Addr} {p pos apos : Pos} {e o : Expr} {es : List Expr} {kws : List Keyword} {ta te : TE} {t tk : TA} {ks : List Str} {is : List Nat} {pl : Sem Bool}
theorem pc (c : Cal X.prog X.w X.K X.mg X.base j x sp) (rm : Room k X.A) (hk : j ≤ k) (gd : X.A.guards = some []) (gl : Gl X x) (ha : PA X (e :: es) t)
    (hdb : (x == ("__debug__" : Str)) = false := by decide) (he : starEach (e :: es) X.env = (false, eval e X.env) :: starEach es X.env := by rfl) (hpl : (backTo pos (starEach es X.env)).any (·.1) = false := by rfl) :
    PE X (.Call (.Name x p) (e :: es) [] pos) (tCall sp [] E0 t) := by
  obtain ⟨f, fd, ps, a, kp, b, F⟩ := c
  exact pe_gcall F (rm.mono hk) gd gl a kp b .nil pass0 ha hdb he hpl
theorem pc0 (c : Cal X.prog X.w X.K X.mg X.base j x sp) (rm : Room k X.A) (hk : j ≤ k) (gd : X.A.guards = some []) (gl : Gl X x)
    (hdb : (x == ("__debug__" : Str)) = false := by decide) : PE X (.Call (.Name x p) [] [] pos) (tCall sp [] E0 tNil) := by
  obtain ⟨f, fd, ps, a, kp, b, F⟩ := c
  exact pe_gcall0 F (rm.mono hk) gd gl a kp b .nil pass0 hdb
theorem pm (c : Met X.prog X.w X.K X.mg X.base j C m f sp) (cl : Cls X.K C) (rm : Room k X.A) (hk : j ≤ k) (gd : X.A.guards = some []) (he : PE X o ta) (ha : PA X (e :: es) t)
    (hst : starEach (e :: es) X.env = (false, eval e X.env) :: starEach es X.env := by rfl) (hpl : (backTo pos (starEach es X.env)).any (·.1) = false := by rfl)
    (ht : eval (.Call (.Attribute o m apos) (e :: es) [] pos) X.env = (do
      let w ← eval o X.env
      standAt apos.atName
      let (g, a) ← holding [w] (getMethod w m pl)
      callWith pos g a (backTo pos (starEach (e :: es) X.env)) (backToKw pos (keywordEach [] X.env))) := by rfl) :
    PE X (.Call (.Attribute o m apos) (e :: es) [] pos) (tMeth C m sp [] E0 ta t) := by
  obtain ⟨fd, ps, hm, b, F⟩ := c
  exact pe_gmeth he cl hm F (rm.mono hk) gd b .nil pass0 ha hst hpl ht
theorem pm0 (c : Met X.prog X.w X.K X.mg X.base j C m f sp) (cl : Cls X.K C) (rm : Room k X.A) (hk : j ≤ k) (gd : X.A.guards = some []) (he : PE X o ta)
    (ht : eval (.Call (.Attribute o m apos) [] [] pos) X.env = (do
      let w ← eval o X.env
      standAt apos.atName
      let (g, a) ← holding [w] (getMethod w m pl)
      callWith pos g a (backTo pos (starEach [] X.env)) (backToKw pos (keywordEach [] X.env))) := by rfl) :
    PE X (.Call (.Attribute o m apos) [] [] pos) (tMeth C m sp [] E0 ta tNil) := by
  obtain ⟨fd, ps, hm, b, F⟩ := c
  exact pe_gmeth0 he cl hm F (rm.mono hk) gd b .nil pass0 ht
theorem pmK (c : MetK X.prog X.w X.K X.mg X.base j C m f ks is sp) (cl : Cls X.K C) (rm : Room k X.A) (hk : j ≤ k) (gd : X.A.guards = some []) (he : PE X o ta) (hkw : PK X kws tk)
    (hall : (backToKw pos (keywordEach kws X.env)).all (·.1.isSome) = true := by rfl) (hks : (backToKw pos (keywordEach kws X.env)).filterMap (·.1) = ks := by rfl)
    (hpl : ((backTo pos (starEach [] X.env)).any (·.1) || (backToKw pos (keywordEach kws X.env)).any (·.1.isNone)) = false := by rfl)
    (ht : eval (.Call (.Attribute o m apos) [] kws pos) X.env = (do
      let w ← eval o X.env
      standAt apos.atName
      let (g, a) ← holding [w] (getMethod w m pl)
      callWith pos g a (backTo pos (starEach [] X.env)) (backToKw pos (keywordEach kws X.env))) := by rfl) :
    PE X (.Call (.Attribute o m apos) [] kws pos) (tMethK C m ks.length sp (fun vs zs => vs ++ sel is zs) E0 ta tk) := by
  obtain ⟨fd, ps, hm, b, F⟩ := c
  exact pe_gmethK he cl hm F (rm.mono hk) gd b pass0 hkw hall hks hpl ht
end

/-! ### ways that meet behind a statement -/
def tMid (t u : TS) : TS := fun D σ H => ∃ M : L2.St → Hp → Prop, t { D with nx := M } σ H ∧ ∀ σ' H', M σ' H' → u D σ' H'
theorem pss_mid {X : Cx} {st : Stmt} {rest : List Stmt} {t u : TS} (h1 : PS X st t) (h2 : PSs X rest u) : PSs X (st :: rest) (tMid t u) := by
  refine ⟨fun pins s σ H D I h => ?_⟩
  obtain ⟨M, a, b⟩ := h
  refine wpAny_execs_cons (thn (h1.run pins s σ H { D with nx := M } I a) fun f s1 q => ?_)
  match f, q with
  | .next, ⟨σ', H', J, q⟩ => exact h2.run pins s1 σ' H' D J (b σ' H' q)
  | .ret v, q => exact q
  | .brk, q => exact q
  | .cont, q => exact q

/-! ### steps -/
/-- what a field's read, a field's store asks -/
def Fld (K : PySem.W.Frag) (f : Str) (x : V) (H : Hp) (Q : VK) : Prop := ∃ a C dx fs v, x = .ref a ∧ H a = some (.ins C dx fs) ∧ Cls K C ∧ NoAttr K C f ∧ fs.lookup f = some v ∧ Q v H
theorem fld {K : PySem.W.Frag} {f : Str} {a C dx : Addr} {fs : List (Str × V)} {v : V} {H : Hp} {Q : VK} (h : H a = some (.ins C dx fs)) (c : Cls K C) (n : NoAttr K C f) (l : fs.lookup f = some v) (q : Q v H) : Fld K f (.ref a) H Q := ⟨a, C, dx, fs, v, rfl, h, c, n, l, q⟩
def SFld (K : PySem.W.Frag) (f : Str) (y x : V) (H : Hp) (QH : Hp → Prop) : Prop := ∃ a C dx fs, x = .ref a ∧ H a = some (.ins C dx fs) ∧ Cls K C ∧ NoAttr K C f ∧ fs.length < 1000 ∧ QH (upd H a (.ins C dx (putF f y fs)))
/-- .. the heap behind it a letter -/
theorem sfld {K : PySem.W.Frag} {f : Str} {a C dx : Addr} {fs gs : List (Str × V)} {y : V} {H : Hp} {QH : Hp → Prop} (h : H a = some (.ins C dx fs)) (c : Cls K C) (n : NoAttr K C f) (l : fs.length < 1000) (e : putF f y fs = gs)
    (q : ∀ H' : Hp, H' a = some (.ins C dx gs) → (∀ b, b ≠ a → H' b = H b) → QH H') : SFld K f y (.ref a) H QH := ⟨a, C, dx, fs, rfl, h, c, n, l, q _ (by rw [← e]; exact upd_same) fun b nb => upd_ne nb⟩
/-- what the making of an instance asks -/
def Make (C : Addr) (sp : Sp) (args : V → List V) (E : XK) (H : Hp) (Q : VK) : Prop := ∀ x dx, H x = none → H dx = none → dx ≠ x → sp (args (.ref x)) (upd (upd H dx (.own x)) x (.ins C dx [])) (fun v H3 => v = .non ∧ Q (.ref x) H3) E
theorem make {C : Addr} {sp : Sp} {args : V → List V} {E : XK} {H : Hp} {Q : VK} (q : ∀ (x dx : Addr) (H' : Hp), H x = none → H' x = some (.ins C dx []) → Same H H' → sp (args (.ref x)) H' (fun v H3 => v = .non ∧ Q (.ref x) H3) E) : Make C sp args E H Q :=
  fun x dx nx ndx _ => q x dx _ nx upd_same fun b o e => by
    rw [upd_ne (ne_of_none e nx), upd_ne (ne_of_none e ndx)]
    exact e
/-- a dict's display, store and read -/
def DAll (p : Addr) (ps : List (V × V)) (Q : VK) (H : Hp) : Prop := H p = some (.dK []) ∧ ∃ kvs : List (Key × V), ps = kvs.map (fun kv => (kV kv.1, kv.2)) ∧ kvs.length ≤ 15 ∧ Q (.ref p) (upd H p (.dK (mergeK [] kvs)))
theorem dall {p : Addr} {ps : List (V × V)} {Q : VK} {H : Hp} {ks : List (Key × V)} (kvs : List (Key × V)) (h : H p = some (.dK [])) (e : ps = kvs.map (fun kv => (kV kv.1, kv.2))) (l : kvs.length ≤ 15) (m : mergeK [] kvs = ks)
    (q : ∀ H' : Hp, H' p = some (.dK ks) → (∀ b, b ≠ p → H' b = H b) → Q (.ref p) H') : DAll p ps Q H := ⟨h, kvs, e, l, q _ (by rw [← m]; exact upd_same) fun b nb => upd_ne nb⟩
def DPutQ (v x y : V) (H : Hp) (QH : Hp → Prop) : Prop := ∃ a H4, x = .ref a ∧ DPut H a y v H4 ∧ QH H4
theorem dput {v : V} {p : Addr} {H : Hp} {QH : Hp → Prop} {kvs ks : List (Key × V)} (k : Key) (h : H p = some (.dK kvs)) (l : kvs.length < sizeLine) (m : putK kvs k v = ks)
    (q : ∀ H' : Hp, H' p = some (.dK ks) → (∀ b, b ≠ p → H' b = H b) → QH H') : DPutQ v (.ref p) (kV k) H QH := ⟨p, _, rfl, DPut.k h l, q _ (by rw [← m]; exact upd_same) fun b nb => upd_ne nb⟩
def DGetQ (x y : V) (H : Hp) (Q : VK) : Prop := ∃ a v, x = .ref a ∧ DGet H a y (some v) ∧ Q v H
theorem dget {v : V} {p : Addr} {H : Hp} {Q : VK} {kvs : List (Key × V)} (k : Key) (h : H p = some (.dK kvs)) (e : valV kvs k = some v) (q : Q v H) : DGetQ (.ref p) (kV k) H Q := ⟨p, v, rfl, by rw [← e]; exact DGet.k h, q⟩
/-- what a for asks -/
def Loop (J : It) (g : TG) (tb : TS) (D : Ends) (σ : L2.St) (H : Hp) : Prop := ∃ W : Nat → Nat → L2.St → Hp → Prop, (∃ m, W 0 m σ H) ∧ ∀ i m σ H, W i m σ H →
  (J.stop i H ∧ D.nx σ H) ∨ (J.go i H ∧ ∃ N : L2.St → Hp → Prop, (∀ σ' H', N σ' H' → ∃ m', m' < m ∧ W (i + 1) m' σ' H') ∧ ∀ x H', J.yld i H x H' → g x σ H' fun σ2 H2 => tb { D with nx := N, ct := N, bk := D.nx } σ2 H2)
def OverT (K : PySem.W.Frag) (x : V) (H : Hp) (R : It → Hp → Prop) : Prop := ∃ a, x = .ref a ∧ (∃ xs, SqT K H a xs) ∧ R (Itt K a) H
theorem over_t {K : PySem.W.Frag} {a : Addr} {xs : List V} {H : Hp} {R : It → Hp → Prop} (h : SqT K H a xs) (q : R (Itt K a) H) : OverT K (.ref a) H R := ⟨a, rfl, ⟨xs, h⟩, q⟩
def OverL (K : PySem.W.Frag) (x : V) (H : Hp) (R : It → Hp → Prop) : Prop := ∃ a, x = .ref a ∧ (∃ xs, SqL K H a xs) ∧ R (Itl K a) H
theorem over_l {K : PySem.W.Frag} {a : Addr} {xs : List V} {H : Hp} {R : It → Hp → Prop} (h : SqL K H a xs) (q : R (Itl K a) H) : OverL K (.ref a) H R := ⟨a, rfl, ⟨xs, h⟩, q⟩
def OverR (vs : List V) (H : Hp) (R : It → Hp → Prop) : Prop := ∃ j : Int, vs = [.int j] ∧ -(2 ^ 62) ≤ j ∧ j < 2 ^ 62 ∧ R (Itr 0 j.toNat) H
theorem over_r {j : Int} {H : Hp} {R : It → Hp → Prop} (h1 : -(2 ^ 62) ≤ j) (h2 : j < 2 ^ 62) (q : R (Itr 0 j.toNat) H) : OverR [.int j] H R := ⟨j, rfl, h1, h2, q⟩
/-- what a method's call asks of the object -/
def Mth (C : Addr) (m : Str) (x : V) (H : Hp) (B : Prop) : Prop := ∃ a dx fs, x = .ref a ∧ H a = some (.ins C dx fs) ∧ fs.lookup m = none ∧ B
theorem mth {C a dx : Addr} {m : Str} {fs : List (Str × V)} {H : Hp} {B : Prop} (h : H a = some (.ins C dx fs)) (l : fs.lookup m = none) (q : B) : Mth C m (.ref a) H B := ⟨a, dx, fs, rfl, h, l, q⟩
/-- a tuple of the written part -/
def KTup (K : PySem.W.Frag) (a : Addr) (xs : List V) : Prop := ∃ (o : Obj) (its : Array Value) (n : Nat), K.lookup a = some o ∧ o.cls = .type "tuple" ∧ o.data = .seq its n ∧ its.size ≤ sizeLine ∧ Vals xs its.toList
theorem KTup.t {K : PySem.W.Frag} {a : Addr} {xs : List V} (h : KTup K a xs) (H : Hp) : SqT K H a xs := .inr h
/-- what a display asks: a new object -/
def New (o : List V → HO) (Q : VK) (xs : List V) (H : Hp) : Prop := xs.length ≤ sizeLine ∧ ∀ p, H p = none → Q (.ref p) (upd H p (o xs))
/-- .. the heap behind it a letter -/
theorem new {o : List V → HO} {Q : VK} {xs : List V} {H : Hp} (h : xs.length ≤ sizeLine) (q : ∀ (p : Addr) (H' : Hp), H p = none → H' p = some (o xs) → Same H H' → Q (.ref p) H') : New o Q xs H :=
  ⟨h, fun p np => q p _ np upd_same fun b u e => by rw [upd_ne (ne_of_none e np)]; exact e⟩
section
variable {σ : L2.St} {H : Hp} {Q : VK} {v : V} {ta tb te : TE} {t u : TS} {D : Ends} {i j : Int} {tc : TT} {QB : Bool → Hp → Prop} {QA : List V → Hp → Prop} {tr : TA} {r : R2}
theorem w_var {n : Nat} (h : σ[n]? = some (some v)) (q : Q v H) : tVar n σ H Q := ⟨v, h, q⟩
theorem w_c (q : Q v H) : tC v σ H Q := q
theorem w_op (q : ta σ H fun x H1 => tb σ H1 fun y H2 => r x y H2 Q) : tOp r ta tb σ H Q := q
theorem w_un {r : V → Hp → VK → Prop} (q : ta σ H fun x H1 => r x H1 Q) : tUn r ta σ H Q := q
theorem w_add (q : Q (.int (i + j)) H) : rI0 (fun i j => .int (i + j)) (.int i) (.int j) H Q := ⟨i, j, rfl, rfl, q⟩
theorem w_sub (q : Q (.int (i - j)) H) : rI0 (fun i j => .int (i - j)) (.int i) (.int j) H Q := ⟨i, j, rfl, rfl, q⟩
theorem w_mul (c : CMul i j) (q : Q (.int (i * j)) H) : rI CMul (fun i j => .int (i * j)) (.int i) (.int j) H Q := ⟨i, j, rfl, rfl, c, q⟩
theorem w_mod (c : 0 < j) (q : Q (.int (i % j)) H) : rI (fun _ j => 0 < j) (fun i j => .int (i % j)) (.int i) (.int j) H Q := ⟨i, j, rfl, rfl, c, q⟩
theorem w_fdiv (c : CDiv i j) (q : Q (.int (i / j)) H) : rI CDiv (fun i j => .int (i / j)) (.int i) (.int j) H Q := ⟨i, j, rfl, rfl, c, q⟩
theorem w_pow (c : CPow i j) (q : Q (.int (i ^ j.toNat)) H) : rI CPow (fun i j => .int (i ^ j.toNat)) (.int i) (.int j) H Q := ⟨i, j, rfl, rfl, c, q⟩
theorem w_and (q : Q (.int (Builtin.bitAnd i j)) H) : rI0 (fun i j => .int (Builtin.bitAnd i j)) (.int i) (.int j) H Q := ⟨i, j, rfl, rfl, q⟩
theorem w_or (q : Q (.int (Builtin.bitOr i j)) H) : rI0 (fun i j => .int (Builtin.bitOr i j)) (.int i) (.int j) H Q := ⟨i, j, rfl, rfl, q⟩
theorem w_xor (q : Q (.int (Builtin.bitXor i j)) H) : rI0 (fun i j => .int (Builtin.bitXor i j)) (.int i) (.int j) H Q := ⟨i, j, rfl, rfl, q⟩
theorem w_gt (q : Q (.bl (decide (j < i))) H) : rI0 (fun i j => .bl (decide (j < i))) (.int i) (.int j) H Q := ⟨i, j, rfl, rfl, q⟩
theorem w_lt (q : Q (.bl (decide (i < j))) H) : rI0 (fun i j => .bl (decide (i < j))) (.int i) (.int j) H Q := ⟨i, j, rfl, rfl, q⟩
theorem w_ge (q : Q (.bl (decide (j ≤ i))) H) : rI0 (fun i j => .bl (decide (j ≤ i))) (.int i) (.int j) H Q := ⟨i, j, rfl, rfl, q⟩
theorem w_le (q : Q (.bl (decide (i ≤ j))) H) : rI0 (fun i j => .bl (decide (i ≤ j))) (.int i) (.int j) H Q := ⟨i, j, rfl, rfl, q⟩
theorem w_eq {x y : V} (s : scal x y = true) (q : Q (.bl (decide (x = y))) H) : rEq x y H Q := ⟨s, q⟩
theorem w_ne {x y : V} (s : scal x y = true) (q : Q (.bl (!decide (x = y))) H) : rNe x y H Q := ⟨s, q⟩
theorem w_test (q : te σ H fun x H' => ∃ k, x = .bl k ∧ QB k H') : tTest te σ H QB := q
theorem w_tB (q : te σ H fun x H' => ∃ k, x = .bl k ∧ QB k H') : tB te σ H QB := q
theorem w_bl {b : Bool} {B : Bool → Prop} (q : B b) : ∃ k, V.bl b = .bl k ∧ B k := ⟨b, rfl, q⟩
theorem w_seq (q : t { D with nx := u D } σ H) : tSeq t u D σ H := q
theorem w_ret (q : te σ H D.rt) : tRet te D σ H := q
theorem w_next (q : D.nx σ H) : tNext D σ H := q
theorem w_asg {g : TG} (q : te σ H fun x H1 => g x σ H1 D.nx) : tAsg te g D σ H := q
theorem w_gname {n : Nat} {QS : L2.St → Hp → Prop} (q : QS (σ.set n (some v)) H) : gName n v σ H QS := q
theorem w_ifs (q : tc σ H fun b H1 => if b = true then t D σ H1 else u D σ H1) : tIfS tc t u D σ H := q
theorem w_ifx (q : tc σ H fun c H1 => if c = true then ta σ H1 Q else tb σ H1 Q) : tIf tc ta tb σ H Q := q
theorem w_nil (q : QA [] H) : tNil σ H QA := q
theorem w_cons (q : ta σ H fun x H1 => tr σ H1 fun xs H2 => QA (x :: xs) H2) : tCons ta tr σ H QA := q
theorem w_tup (q : tr σ H fun xs H1 => New HO.tup Q xs H1) : tTup tr σ H Q := q
theorem w_lst (q : tr σ H fun xs H1 => New HO.lst Q xs H1) : tLst tr σ H Q := q
theorem w_and2 {tt uu : TT} (q : tt σ H fun c H1 => if c = true then uu σ H1 QB else QB false H1) : tAnd tt uu σ H QB := q
theorem w_or2 {tt uu : TT} (q : tt σ H fun c H1 => if c = true then QB true H1 else uu σ H1 QB) : tOr tt uu σ H QB := q
theorem w_not {tt : TT} (q : tt σ H fun c H1 => QB (!c) H1) : tNot tt σ H QB := q
theorem w_cb {r : List V → Hp → VK → Prop} (q : tr σ H fun vs H1 => r vs H1 Q) : tCB r tr σ H Q := q
theorem w_call {sp : Sp} {dvs : List V} {E : XK} (q : tr σ H fun vs H1 => sp (vs ++ dvs) H1 Q E) : tCall sp dvs E tr σ H Q := q
theorem w_ixL {K : PySem.W.Frag} {p : Addr} {xs : List V} (h : SqL K H p xs) (a : atI xs i = some v) (q : Q v H) : rIxL K (.ref p) (.int i) H Q := ⟨p, xs, i, v, rfl, rfl, h, a, q⟩
theorem w_ixT {K : PySem.W.Frag} {p : Addr} {xs : List V} (h : SqT K H p xs) (a : atI xs i = some v) (q : Q v H) : rIxT K (.ref p) (.int i) H Q := ⟨p, xs, i, v, rfl, rfl, h, a, q⟩
theorem w_gsub {to ti : TE} {ts : TSet} {QS : L2.St → Hp → Prop} (q : to σ H fun o H1 => ti σ H1 fun i H2 => ts o i v H2 fun H3 => QS σ H3) : gSub to ti ts v σ H QS := q
theorem w_setL {p : Addr} {xs : List V} {n : Nat} {QH : Hp → Prop} (h : H p = some (.lst xs)) (a : ixN xs.length i = some n) (q : QH (upd H p (.lst (xs.set n v)))) : rSetL (.ref p) (.int i) v H QH := ⟨p, xs, i, n, rfl, rfl, h, a, q⟩
/-- the store, the heap behind it a letter -/
theorem w_setG {p : Addr} {xs ys : List V} {n : Nat} {QH : Hp → Prop} (h : H p = some (.lst xs)) (a : ixN xs.length i = some n) (e : xs.set n v = ys)
    (q : ∀ H' : Hp, H' p = some (.lst ys) → (∀ b, b ≠ p → H' b = H b) → QH H') : rSetL (.ref p) (.int i) v H QH := ⟨p, xs, i, n, rfl, rfl, h, a, q _ (by rw [← e]; exact upd_same) fun b nb => upd_ne nb⟩
theorem w_fld {K : PySem.W.Frag} {f : Str} (q : ta σ H fun x H1 => Fld K f x H1 Q) : tFld K ta f σ H Q := q
theorem w_sfld {K : PySem.W.Frag} {tv : TE} {f : Str} (q : tv σ H fun y H1 => ta σ H1 fun x H2 => SFld K f y x H2 (fun H3 => D.nx σ H3)) : sFld K ta tv f D σ H := q
theorem w_par {m n : Nat} {ta : TA} (q : ta σ H fun vs H1 => ∃ v w, vs = [v, w] ∧ D.nx ((σ.set m (some v)).set n (some w)) H1) : tPar m n ta D σ H := q
theorem w_andV {ta tb : TE} (q : ta σ H fun x H1 => ∃ c, x = .bl c ∧ if c = true then tb σ H1 Q else Q (.bl false) H1) : tAndV ta tb σ H Q := q
theorem w_orV {ta tb : TE} (q : ta σ H fun x H1 => ∃ c, x = .bl c ∧ if c = true then Q (.bl true) H1 else tb σ H1 Q) : tOrV ta tb σ H Q := q
theorem w_mid (M : L2.St → Hp → Prop) (a : t { D with nx := M } σ H) (b : ∀ σ' H', M σ' H' → u D σ' H') : tMid t u D σ H := ⟨M, a, b⟩
theorem w_in {K : PySem.W.Frag} {neg : Bool} {x : V} {p : Addr} {xs : List V} (h : SqL K H p xs ∨ SqT K H p xs) (f : flatV x = true) (fs : xs.all flatV = true) (q : Q (.bl (if neg then !inV x xs else inV x xs)) H) : rIn K neg x (.ref p) H Q := ⟨p, xs, rfl, h, f, fs, q⟩
theorem w_kd {K : PySem.W.Frag} {w : World} {p : Addr} {z : Str} (h : KDct K w p z v) (q : Q v H) : rIxD K w (.ref p) (.str z) H Q := ⟨p, z, v, rfl, rfl, h, q⟩
theorem w_meth {C : Addr} {m : Str} {sp : Sp} {dvs : List V} {E : XK} {tr : TA} (q : ta σ H fun x H1 => Mth C m x H1 (tr σ H1 fun vs H2 => sp (x :: (vs ++ dvs)) H2 Q E)) : tMeth C m sp dvs E ta tr σ H Q := q
theorem w_methK {C : Addr} {m : Str} {n : Nat} {sp : Sp} {gV : List V → List V → List V} {E : XK} {tr : TA} (q : ta σ H fun x H1 => Mth C m x H1 (tr σ H1 fun zs H2 => zs.length = n ∧ sp (gV [x] zs) H2 Q E)) : tMethK C m n sp gV E ta tr σ H Q := q
theorem w_for {wi : TI} {g : TG} {tb : TS} (q : wi σ H fun J H1 => Loop J g tb D σ H1) : tFor wi g tb D σ H := q
theorem w_itup {K : PySem.W.Frag} {tl : TE} {R : It → Hp → Prop} (q : tl σ H fun x H1 => OverT K x H1 R) : iTup K tl σ H R := q
theorem w_ilist {K : PySem.W.Frag} {tl : TE} {R : It → Hp → Prop} (q : tl σ H fun x H1 => OverL K x H1 R) : iList K tl σ H R := q
theorem w_irng {ta : TA} {R : It → Hp → Prop} (q : ta σ H fun vs H1 => OverR vs H1 R) : iRng1 ta σ H R := q
theorem w_disp {trs : List (TE × TE)} (q : ∀ (p : Addr) (H1 : Hp), H p = none → H1 p = some (.dK []) → Same H H1 → tPairs trs σ H1 fun ps H2 => DAll p ps Q H2) : tDisp trs σ H Q :=
  fun p np => q p _ np upd_same fun b u e => by rw [upd_ne (ne_of_none e np)]; exact e
theorem w_pnil {QP : List (V × V) → Hp → Prop} (q : QP [] H) : tPairs [] σ H QP := q
theorem w_pcons {tk tv : TE} {r : List (TE × TE)} {QP : List (V × V) → Hp → Prop} (q : tk σ H fun x H1 => tv σ H1 fun y H2 => tPairs r σ H2 fun ps H3 => QP ((x, y) :: ps) H3) : tPairs ((tk, tv) :: r) σ H QP := q
theorem w_dput {td ty tv : TE} (q : tv σ H fun v H1 => td σ H1 fun x H2 => ty σ H2 fun y H3 => DPutQ v x y H3 (fun H4 => D.nx σ H4)) : sDPut td ty tv D σ H := q
theorem w_dget {td ty : TE} (q : td σ H fun x H1 => ty σ H1 fun y H2 => DGetQ x y H2 Q) : tDGet td ty σ H Q := q
theorem w_make {C : Addr} {sp : Sp} {dvs : List V} {E : XK} {tr : TA} (q : tr σ H fun vs H1 => Make C sp (fun x => x :: (vs ++ dvs)) E H1 Q) : tMake C sp dvs E tr σ H Q := q
theorem w_makeK {C : Addr} {n : Nat} {sp : Sp} {gV : List V → List V → List V} {E : XK} {tr : TA} (q : tr σ H fun zs H2 => zs.length = n ∧ Make C sp (fun x => gV [x] zs) E H2 Q) : tMakeKG C n sp gV E tr σ H Q := q
theorem w_drop (q : te σ H fun _ H1 => D.nx σ H1) : tDrop te D σ H := q
end
end KG

set_option Elab.async false
set_option linter.all false
set_option maxRecDepth 100000
set_option maxHeartbeats 4000000
/-! KX: an error that a suite keeps under another name, and what is asked of it later. -/
namespace KG
open PySem PySem.Spec PyProof.Rows L2

/-- a caught error of the class cls at a, its dict d -/
def ErrO (cls : Value) (d : Option Addr) (a : Addr) : HO := .ext fun h => ∃ (oe : Obj) (vs : Array Value), h.get? a = some oe ∧ Zc cls d oe ∧ oe.data = .fields vs
theorem errO_ok {P : Program} {w : World} {H : Hp} {h : Heap} {cls : Value} {d : Option Addr} {a : Addr} {oe : Obj} {vs : Array Value} (e : h.get? a = some oe) (z : Zc cls d oe) (dd : oe.data = .fields vs) : ObjOk P w H h a (ErrO cls d a) :=
  ⟨⟨oe, vs, e, z, dd⟩, ⟨oe, e⟩, fun _ _ ⟨o, v, q, r⟩ k => ⟨o, v, k o q, r⟩⟩
theorem errO_at {P : Program} {w : World} {H : Hp} {h : Heap} {cls : Value} {d : Option Addr} {a : Addr} (hok : HOk P w H h) (e : H a = some (ErrO cls d a)) : ∃ (oe : Obj) (vs : Array Value), h.get? a = some oe ∧ Zc cls d oe ∧ oe.data = .fields vs := by
  have x : ObjOk P w H h a (.ext fun h => ∃ (oe : Obj) (vs : Array Value), h.get? a = some oe ∧ Zc cls d oe ∧ oe.data = .fields vs) := hok a _ e
  exact x.1

section
variable {X : Cx} {pins : List (Addr × Obj)} {σ : L2.St} {H : Hp} {s : Shared}
/-- an object that was not there at the entry is known from now on -/
theorem inv_know {a : Addr} {oe : Obj} {vs : Array Value} {o : HO} (I : Inv X pins σ H s) (ha : s.heap.get? a = some oe) (hd : oe.data = .fields vs) (new : ObjOk X.prog X.w (upd H a o) s.heap a o) (na : H a = none) (nL : a ≠ X.env.locals)
    (n0 : X.s_0.heap.get? a = none) (np : ∀ p ∈ X.pn ++ pins, p.1 ≠ a) : Inv X pins σ (upd H a o) s := by
  have nT : ∀ {b u}, H b = some u → b ≠ a := fun e => ne_of_none e na
  have nC : ∀ x c, X.env.cells.lookup x = some c → c ≠ a := fun x c e z => by
    obtain ⟨v, oc, e1, e2⟩ := I.cell x c e
    rw [z, ha] at e1
    cases e1
    rw [hd] at e2
    cases e2
  refine ⟨I.ok, I.os, I.bare, ⟨I.base.keep, I.base.slot, fun b u e n hx => ?_, I.base.there, fun b xs e => ?_, fun b u v e => ?_, fun b ps e => ?_⟩, I.loc, I.cell, ?_, fun x c e => ?_, fun p hp => ?_, fun b u e => ?_, I.len⟩
  · rw [upd_ne (fun z => by rw [z, n0] at e; cases e)]
    exact I.base.free b u e n hx
  · have q := I.base.tups b xs e
    rw [upd_ne (nT q)]; exact q
  · have q := I.base.frzs b u v e
    rw [upd_ne (nT q)]; exact q
  · obtain ⟨m, q⟩ := I.base.tbls b ps e
    exact ⟨m, by rw [upd_ne (nT q)]; exact q⟩
  · rw [upd_ne (Ne.symm nL)]; exact I.free
  · rw [upd_ne (nC x c e)]; exact I.freeC x c e
  · obtain ⟨e, n, ne, nf, d⟩ := I.pin p hp
    exact ⟨e, by rw [upd_ne (np p hp)]; exact n, ne, nf, d⟩
  · by_cases hb : b = a
    · subst hb
      rw [upd_same] at e
      cases e
      exact new
    · rw [upd_ne hb] at e
      exact (I.hok b u e).stay (fun c v _ q => q) (fun c q => by rw [upd_ne (nT q)]; exact q) fun c xs q => by rw [upd_ne (nT q)]; exact q
end

/-- what the clause wishes, the error known behind its suite; slot i is the name's -/
def wKeep (K : PySem.W.Frag) (c : Value) (i : Nat) (ts : Addr → Value → Option Addr → TS) (Wout : WX) (D : Ends) : WX := fun cls d σ H => ∃ b, PySem.W.exmOne K cls c = some b ∧
  (b = true → ∀ a, H a = none → ts a cls d
    { nx := fun τ G => D.nx (τ.set i none) (upd G a (ErrO cls d a)), rt := fun v G => D.rt v (upd G a (ErrO cls d a)), bk := fun τ G => D.bk (τ.set i none) (upd G a (ErrO cls d a)), ct := fun τ G => D.ct (τ.set i none) (upd G a (ErrO cls d a)) } (σ.set i (some (.ref a))) H) ∧
  (b = false → Wout cls d σ H)

/-- an object of fields is no frame -/
theorem off_frames {B h : Heap} {l : List Env} {a : Addr} {o : Obj} {vs : Array Value} (ff : h.FunFrames B l) (e : h.get? a = some o) (d : o.data = .fields vs) : a ∉ frs l := by
  intro inside
  have ⟨_, p, ep, plain⟩ := ff.mem inside
  have same : o = p := Option.some.inj (e.symm.trans ep)
  exact plain vs (same ▸ d)
/-- where a caught error lies: beside the frames, the pins and all that was there at the entry -/
structure Beside (X : Cx) (pins : List (Addr × Obj)) (a : Addr) : Prop where
  own : a ≠ X.env.locals
  outer : a ∉ X.fs
  entry : X.s_0.heap.get? a = none
  pinned : ∀ p ∈ X.pn ++ pins, p.1 ≠ a
section
variable {X : Cx} {x n : Str} {c : Value} {i : Nat} {body suite : List Stmt} {b₀ : Stmt} {np pos pos' : Pos} {tb : WX → TS} {ts : Addr → Value → Option Addr → TS} {Wout : WX} {pins : List (Addr × Obj)} {σ : L2.St} {H : Hp} {s : Shared} {D : Ends}
theorem beside_of {B : Heap} {a : Addr} (stk : X.stack = X.env :: X.outer) (fr : X.env.frame = some X.env.locals) (noex : X.ex = []) (I : Inv X pins σ H s) (ground : ∀ b o, s.heap.get? b = some o → b ∉ frs X.stack → B.get? b = some o)
    (fresh : B.get? a = none) (off : a ∉ frs (X.env :: X.outer)) : Beside X pins a := by
  have gap : s.heap.get? a = none := by
    rcases e : s.heap.get? a with _ | o
    · rfl
    · have below := ground a o e (by rw [stk]; exact off)
      exact absurd (fresh.symm.trans below) (by simp)
  constructor
  · intro z
    refine off (List.mem_filterMap.mpr ⟨X.env, .head _, ?_⟩)
    rw [z, fr]
  · intro inside
    have ⟨env, henv, at_⟩ := List.mem_filterMap.mp inside
    exact off (List.mem_filterMap.mpr ⟨env, .tail _ henv, at_⟩)
  · rcases e : X.s_0.heap.get? a with _ | o
    · rfl
    · have ⟨_, still⟩ := I.base.there a o e (by rw [noex]; simp)
      exact absurd (gap.symm.trans still) (by simp)
  · intro p hp z
    have kept := (I.pin p hp).1
    rw [z] at kept
    exact absurd (gap.symm.trans kept) (by simp)
/-- the way out of the suite: the name goes, the error is known -/
theorem way_out {a : Addr} {oe : Obj} {vs : Array Value} {cls : Value} {d : Option Addr} {R : Shared → Prop} (ok : X.Ok) (nd : X.N.Nodup) (place : X.N[i]? = some n) (loc : X.env.kindOf n = some .local) (by_ : Beside X pins a) (z : Zc cls d oe) (dd : oe.data = .fields vs)
    (S : Inv (X.suite a ((a, oe) :: (X.pn ++ pins))) [] σ H s) (next : ∀ s', Inv X pins (σ.set i none) (upd H a (ErrO cls d a)) s' → R s') :
    wpAny (model X.prog X.w) X.A (do bindName X.env n .none; unbindBehindTheSuite X.env n pos') (fun _ s' => R s') X.xe s := by
  refine gone_ok (X := X.suite a ((a, oe) :: (X.pn ++ pins))) (pins := []) S nd place loc fun s' S' => next s' ?_
  have ⟨there, free, _⟩ := S'.pin (a, oe) (List.mem_append_left _ (.head _))
  exact inv_know (S'.unsuite ok) there dd (errO_ok there z dd) free by_.own by_.entry by_.pinned
/-- the clause's class by its name, within the suite's marks -/
theorem class_of_clause {a : Addr} {oe : Obj} {Q E : Value → Shared → Prop} (hc : Names X x c) (S : Inv (X.suite a ((a, oe) :: (X.pn ++ pins))) [] σ H s) (q : Q c s) : wpAny (model X.prog X.w) (X.A.mark (some (.ref a))) (eval (.Name x np) X.env) Q E s := by
  have ⟨glob, plain, from_⟩ := hc
  rcases from_ with own | ⟨no, boot, nn⟩
  · exact ld_glob (X := X.suite a ((a, oe) :: (X.pn ++ pins))) S glob own q plain
  · exact ld_blt (X := X.suite a ((a, oe) :: (X.pn ++ pins))) S glob no boot q nn plain
/-- an error that comes out of the body meets the clause -/
theorem clause_meets {xe₀ : Value → Shared → Prop} {u : Value} {s' : Shared} (stk : X.stack = X.env :: X.outer) (fr : X.env.frame = some X.env.locals) (noex : X.ex = []) (nd : X.N.Nodup) (place : X.N[i]? = some n) (loc : X.env.kindOf n = some .local) (hc : Names X x c) (tk : Takes X Wout)
    (inner : ∀ (a : Addr) (oe : Obj) (cls : Value) (d : Option Addr) (pn : List (Addr × Obj)), Zc cls d oe → (∃ vs, oe.data = .fields vs) → PSs (X.suite a ((a, oe) :: pn)) (b₀ :: suite) (ts a cls d)) (ok : X.Ok) (xx : XE (X.tr (X.pn ++ pins) xe₀) (wKeep X.K c i ts Wout D) u s') :
    wpAny (model X.prog X.w) X.A (noteFrame u X.env) (fun _ s₂ => wpAny (model X.prog X.w) X.A (setFlight u none) (fun _ s₃ => wpAny (model X.prog X.w) X.A (handleBy u X.env [.ExceptHandler (some (.Name x np)) (some n) (b₀ :: suite) pos']) (SP X pins D) X.xe s₃) X.xe s₂) X.xe s' := by
  have ⟨a, B, sI, _, τ, G, cls, d, eu, J', ground, grown, sky, free, os, bare, b, which, yes, no⟩ := xx
  subst eu
  have J : Inv X pins τ G sI := J'.ofTry ok
  have all_frames : X.A.frames = some (X.env :: X.outer) := stk ▸ ok.frames
  refine Sky.land (Zc.steady (cls := cls) (d := d)) all_frames fr (stk ▸ sky) fun h1 fl1 g1 => ?_
  have I1 : Inv X pins τ G { s' with heap := h1 } := J.landed ground fl1.1 (grown.trans g1) os bare
  have ⟨o1, v1, at1, z1, d1⟩ := fl1.there
  have by_ : Beside X pins a := beside_of stk fr noex J ground fl1.2.1 (off_frames fl1.2.2.1 at1 d1)
  have T1 := I1.suite at1 d1 free by_.own by_.outer
  have kind : PySem.W.Looks (model X.prog X.w) h1 (typeOf (.ref a)) cls := fun _ _ _ _ keeps q => wpAny_typeOf_ref (keeps _ _ at1) (z1.1.symm ▸ q)
  refine wpAny_handleBy_cons (codeAny_handlers_test (class_of_clause hc T1 ((PySem.W.exm_one (M := model X.prog X.w) I1.kIn kind which).here ?_))) (fun z => nomatch z)
  rcases b with _ | _
  · -- another clause's, or nobody's: it goes on
    refine wpAny_handleBy_nil ?_
    have goes : wpAny (model X.prog X.w) X.A (setFlight (.ref a) X.env.frame) (fun _ s₄ => wpAny (model X.prog X.w) X.A (throw (.ref a) : Sem Flow) (SP X pins D) X.xe s₄) X.xe { s' with heap := h1 } := by
      rw [fr]
      exact HandSPX.setFlight_upZ fl1 fun h2 held g2 => wpAny_throw (tk _ _ ⟨a, B, sI, pins, τ, G, cls, d, rfl, J, ground, (grown.trans g1).trans g2, .inr (.inr (by rw [stk]; exact held)), free, os, bare, no rfl⟩)
    have ⟨_, _, _, _, _, T, _, _, atE, _, dE, first, _⟩ := fl1
    unfold PySem.passOn
    refine wpAny_bind (wpAny_field atE dE first ?_)
    have some_ : ¬ ((Value.ref T == Value.none) = true) := by simp
    rw [if_neg some_]
    first
      | exact wpAny_bind (wpAny_pure (wpAny_bind goes))
      | exact wpAny_bind goes
  · -- this clause's: the suite
    refine codeAny_handlers_suite_as (HandSPX.lands_againZ fl1 fun h2 fl2 g2 => ?_)
    have ⟨o2, v2, at2, z2, d2⟩ := fl2.there
    have T2 := (J.landed ground fl2.1 ((grown.trans g1).trans g2) os bare : Inv X pins τ G { s' with heap := h2 }).suite at2 d2 free by_.own by_.outer
    refine store_ok (X := X.suite a ((a, o2) :: (X.pn ++ pins))) (v := .ref a) T2 nd place (.inl loc) rfl (fun s3 T3 => ?_) (.inr loc)
    refine wpAny_mono ((inner a o2 cls d (X.pn ++ pins) z2 ⟨_, d2⟩).run [] s3 _ G _ T3 (yes rfl a free)) (fun flow s4 ends => ?_) (fun _ _ z => False.elim z)
    match flow, ends with
    | .next, ⟨_, _, T4, q⟩ => exact way_out ok nd place loc by_ z2 d2 T4 fun _ I5 => ⟨_, _, I5, q⟩
    | .brk, ⟨_, _, T4, q⟩ => exact way_out ok nd place loc by_ z2 d2 T4 fun _ I5 => ⟨_, _, I5, q⟩
    | .cont, ⟨_, _, T4, q⟩ => exact way_out ok nd place loc by_ z2 d2 T4 fun _ I5 => ⟨_, _, I5, q⟩
    | .ret _, ⟨_, _, _, T4, r, q⟩ => exact way_out ok nd place loc by_ z2 d2 T4 fun _ I5 => ⟨_, _, _, I5, r, q⟩
/-- try: body / except x as n: suite; the error is known behind the suite -/
theorem ps_try_keep (hs : X.stack = X.env :: X.outer) (hf : X.env.frame = some X.env.locals) (hex : X.ex = []) (hN : X.N.Nodup) (hi : X.N[i]? = some n) (hln : X.env.kindOf n = some .local) (hc : Names X x c) (tk : Takes X Wout)
    (hb : ∀ (W : WX) (pn : List (Addr × Obj)) (xe : Value → Shared → Prop), Takes (X.tr pn xe) W → PassesOwn (model X.prog X.w) X.A X.env xe → PSs (X.tr pn xe) body (tb W))
    (hsu : ∀ (a : Addr) (oe : Obj) (cls : Value) (d : Option Addr) (pn : List (Addr × Obj)), Zc cls d oe → (∃ vs, oe.data = .fields vs) → PSs (X.suite a ((a, oe) :: pn)) (b₀ :: suite) (ts a cls d)) :
    PS X (.Try body [.ExceptHandler (some (.Name x np)) (some n) (b₀ :: suite) pos'] [] [] pos) (fun D σ H => tb (wKeep X.K c i ts Wout D) D σ H) := by
  constructor
  intro pins s σ H D I start_
  refine wpAny_Try_except ?_
  refine wpAny_mono ((hb _ (X.pn ++ pins) (fun u s₁ => wpAny (model X.prog X.w) X.A (noteFrame u X.env) (fun _ s₂ => wpAny (model X.prog X.w) X.A (setFlight u none) (fun _ s₃ => wpAny (model X.prog X.w) X.A (handleBy u X.env [.ExceptHandler (some (.Name x np)) (some n) (b₀ :: suite) pos']) (SP X pins D) X.xe s₃) X.xe s₂) X.xe s₁)
    (fun _ _ xx => clause_meets hs hf hex hN hi hln hc tk hsu I.ok xx) PassesOwn.looking).run [] s σ H D (I.toTry _) start_) (fun flow s1 ends => ?_) (fun _ _ z => z)
  match flow, ends with
  | .next, ⟨_, _, T, q⟩ => exact wpAny_execs_nil ⟨_, _, T.ofTry I.ok, q⟩
  | .brk, ⟨_, _, T, q⟩ => exact ⟨_, _, T.ofTry I.ok, q⟩
  | .cont, ⟨_, _, T, q⟩ => exact ⟨_, _, T.ofTry I.ok, q⟩
  | .ret _, ⟨_, _, _, T, r, q⟩ => exact ⟨_, _, _, T.ofTry I.ok, r, q⟩
end

/-! ### what is asked of a known error -/
/-- isinstance(e, c): D the error's class -/
def rIsErr (K : PySem.W.Frag) : List V → Hp → VK → Prop := fun xs H Q => ∃ (a D : Addr) (dd : Addr) (fs : List (Str × V)) (c : V) (cv : Value) (b : Bool), xs = [.ref a, c] ∧ H a = some (ErrO (.ref D) (some dd) a) ∧ H dd = some (.xd fs) ∧ ExcC K D ∧
  (∀ u, RelV c u → u = cv) ∧ PySem.W.kitOne K (.ref D) cv = some b ∧ Q (.bl b) H
theorem excC_cls {K : PySem.W.Frag} {D : Addr} (C : ExcC K D) : (PySem.W.clsIn K D).isSome = true := by
  obtain ⟨cd, hc, _⟩ := PySem.W.any_some C.hd
  rw [hc] <;> rfl
theorem call_isErr {X : Cx} : CallR X (.builtin "isinstance") (rIsErr X.K) := by
  intro pins s σ H xs us Q I r h
  obtain ⟨a, D, dd, fs, c, cv, b, rfl, ha, hdd, C, hcv, e, q⟩ := h
  cases r with
  | cons rx rr =>
    cases rr with
    | cons rt rr =>
      cases rr
      cases rx
      have ec := hcv _ rt
      subst ec
      obtain ⟨oe, vs, hget, hz, hv⟩ := errO_at I.hok ha
      obtain ⟨mA, ⟨od, _, _, ho, _⟩, _⟩ := I.hok dd _ hdd
      have J : PySem.W.InstAt s.heap a oe D (some od) := by
        obtain ⟨oc, oda, odt, osl⟩ := oe
        obtain ⟨h1, h2⟩ := hz
        dsimp only at h1 h2 hv
        subst h1 h2 hv
        exact ⟨hget, rfl, rfl, ho⟩
      exact PySem.W.kia_one (PySem.W.kitx_exc (excC_cls C) C.hg C.hk C.hs C.ha C.hn C.ht C.hm) I.kIn J e (fun z => nomatch z) fun tk => ⟨.bl b, H, I.kept (t' := tk) fun _ _ z => z, rfl, q⟩
/-- e.f of a known error -/
def tErrF (K : PySem.W.Frag) (te : TE) (f : Str) : TE := fun σ H Q => te σ H fun x H1 => ∃ (a C dd : Addr) (fs : List (Str × V)) (v : V), x = .ref a ∧ H1 a = some (ErrO (.ref C) (some dd) a) ∧ H1 dd = some (.xd fs) ∧ XfC K C ∧ PySem.W.findIn K (.ref C) f = some none ∧ fs.lookup f = some v ∧ Q v H1
theorem pe_errf {X : Cx} {e : Expr} {te : TE} {pos : Pos} {n : Str} (he : PE X e te) (hb : attributeBase e n X.env (eval e X.env) = eval e X.env := by rfl) : PE X (.Attribute e n pos) (tErrF X.K te n) := by
  refine ⟨fun pins s σ H Q I h => ?_⟩
  refine attr_of hb (thn (he.run pins s σ H _ I h) fun u s1 hh => ?_)
  obtain ⟨x, H1, I1, rx, a, C, dd, fs, v, ex, ha, hdd, T, hno, l, q⟩ := hh
  subst ex
  obtain rfl : u = Value.ref a := rx
  obtain ⟨oe, vs, hget, hz, hv⟩ := errO_at I1.hok ha
  obtain ⟨mA, hns, hr⟩ := I1.hok dd _ hdd
  obtain ⟨od, ho, hl⟩ := lookIn_ns hns
  obtain ⟨u, hu, ru⟩ := RelO.some_of (v := v) (o := mA n) (by rw [← l]; exact hr n)
  have J : PySem.W.InstAt s1.heap a oe C (some od) := ⟨hget, hz.1, by unfold PySem.W.notCls; rw [hv] <;> rfl, by rw [hz.2]; exact ho⟩
  exact HandSPX.exc_get I1.kIn J T.ga T.gg T.exC (PySem.W.findObj_own T.hdC hno rfl (by rw [hl, hu])) (handed_of ru) ⟨v, H1, I1.tok _, ru, q⟩
end KG

set_option Elab.async false
set_option linter.all false
set_option maxRecDepth 100000
set_option maxHeartbeats 4000000
/-! KE1: an own error, its __init__ of two lines: super().__init__('..'), self.f = value. -/
namespace KG
open PySem PySem.Spec PySem.Calls PyProof.Rows L2
open PySem.W (ksFn ksEnv)

/-- what the written part says of such a class at C, its __init__ at fI; pv: the value's name, fld: the field -/
structure ErrC (prog : Program) (K : PySem.W.Frag) (C fI : Addr) (qual pv fld : Str) (params : Arguments) (body : List Stmt) (scope : Scope) : Prop where
  cls : OexC K C
  ini : PySem.W.findIn K (.ref C) "__init__" = some (some (.ref fI))
  fn : PySem.W.typeIn K (.ref fI) = some (.type "function")
  fun_ : ∃ (oc kV doc pm ct : Value) (an od : Option Addr) (cda cc : Addr) (osl : Array (Option Value)) (ccl cl : Value) (cdd cld : Option Addr) (vs : Array Value) (ccs csl : Array (Option Value)) (file : Str) (tf : Tok),
    K.lookup fI = some ⟨oc, od, .func (ksFn "__init__" qual params body scope .none kV doc pm an (.ref cda) ct cc), osl⟩ ∧ PySem.W.codeIn K (.ref cda) qual = true ∧
    K.lookup cda = some ⟨ccl, cdd, .fields vs, ccs⟩ ∧ vs[2]? = some (.str file tf) ∧ ((prog.main.file : Str) == file) = true ∧ K.lookup cc = some ⟨cl, cld, .cell (some (.ref C)), csl⟩
  self_ : PySem.W.mroIn K C (.ref C) = some true
  up : PySem.W.ks_superIn K C C "__init__" = some (some (.builtin "ValueError.__init__"))
  sub : PySem.W.subIn K (.ref C) (.type "ValueError") = some true
  opq : PySem.W.nsIn K cStatics "thirdparty.any" = some none
  nosup : PySem.W.nsIn K mainGlobals "super" = some none
  top : (prog.main.scope.names.lookup ("super" : Str)).isSome = false
  nofld : PySem.W.findIn K (.ref C) fld = some none

/-- the two lines -/
def errBody (msg pv fld : Str) (j : Nat) (p0 p1 p2 p3 p4 p5 p6 p7 p8 p9 : Pos) : List Stmt :=
  [.Expr (.Call (.Attribute (.Call (.Name "super" p0) [] [] p1) "__init__" p2) [.Constant (.str msg) j p3] [] p4) p5,
   .Assign [.Attribute (.Name "self" p6) fld p7] (.Name pv p8) p9]

/-- what the text of the two lines says -/
structure ErrT (qual pv fld msg : Str) (params : Arguments) (scope : Scope) (j : Nat) (p0 p1 p2 p3 p4 p5 p6 p7 p8 p9 : Pos) : Prop where
  bind : ∀ (kV doc pm : Value) (an : Option Addr) (cdv ct : Value) (cc : Addr) (x y : Value), bindArgs (ksFn "__init__" qual params (errBody msg pv fld j p0 p1 p2 p3 p4 p5 p6 p7 p8 p9) scope .none kV doc pm an cdv ct cc) ⟨[x, y], []⟩ = pure [(("self" : Str), x), (pv, y)]
  ev : ∃ pl : Env → Sem Bool, ∀ env : Env, eval (.Call (.Attribute (.Call (.Name "super" p0) [] [] p1) "__init__" p2) [.Constant (.str msg) j p3] [] p4) env = (do
      let ov ← attributeBase (.Call (.Name "super" p0) [] [] p1) "__init__" env (eval (.Call (.Name "super" p0) [] [] p1) env)
      standAt p2.atName
      let (f, first) ← holding [ov] (getMethod ov "__init__" (pl env))
      callWith p4 f first (backTo p4 (starEach [.Constant (.str msg) j p3] env)) [])
  par : (params.posonlyargs ++ params.args).head?.map (·.arg) = some "self"
  k1 : scope.names.lookup ("self" : Str) = some .local
  k2 : scope.names.lookup pv = some .local
  k3 : scope.names.lookup ("super" : Str) = some .globalImplicit
  k4 : scope.names.lookup ("__class__" : Str) = some .free
  npv : pv ≠ "self"
  npd : (pv == ("__debug__" : Str)) = false
  cell : ∀ x ∈ scope.names, x.2 ≠ .cell
  co : scope.isCoroutine = false
  gen : scope.isGenerator = false
  kind : scope.kind = .function

section
variable {prog : Program} {w : World} {A : Around} {R : Result → Shared → Prop} {K : PySem.W.Frag} {mg mb : Str → Option Value} {C fI : Addr} {qual pv fld msg : Str} {params : Arguments} {scope : Scope} {j : Nat} {p0 p1 p2 p3 p4 p5 p6 p7 p8 p9 : Pos}
theorem err_init {s : Shared} {e t0 : Addr} {u : Value} (T : ErrC prog K C fI qual pv fld params (errBody msg pv fld j p0 p1 p2 p3 p4 p5 p6 p7 p8 p9) scope)
    (kin : K.In s.heap) (nsm : s.heap.Ns mainGlobals mg) (nsb : s.heap.Ns builtinsNs mb) (mbb : ∀ x : Str, x ≠ "__name__" → mb x = bootBuiltins x) (lim : s.heap.NoLimit) (dep : A.depth < recursionLimit)
    (he : s.heap.get? e = some (PySem.HandSPX.excO C t0)) (nK : K.lookup e = none)
    (bind : ∀ (kV doc pm : Value) (an : Option Addr) (cdv ct : Value) (cc : Addr) (x y : Value), bindArgs (ksFn "__init__" qual params (errBody msg pv fld j p0 p1 p2 p3 p4 p5 p6 p7 p8 p9) scope .none kV doc pm an cdv ct cc) ⟨[x, y], []⟩ = pure [(("self" : Str), x), (pv, y)])
    (pl : Env → Sem Bool) (hev : ∀ env : Env, eval (.Call (.Attribute (.Call (.Name "super" p0) [] [] p1) "__init__" p2) [.Constant (.str msg) j p3] [] p4) env = (do
      let ov ← attributeBase (.Call (.Name "super" p0) [] [] p1) "__init__" env (eval (.Call (.Name "super" p0) [] [] p1) env)
      standAt p2.atName
      let (f, first) ← holding [ov] (getMethod ov "__init__" (pl env))
      callWith p4 f first (backTo p4 (starEach [.Constant (.str msg) j p3] env)) []))
    (hpar : (params.posonlyargs ++ params.args).head?.map (·.arg) = some "self")
    (k1 : scope.names.lookup ("self" : Str) = some .local) (k2 : scope.names.lookup pv = some .local) (k3 : scope.names.lookup ("super" : Str) = some .globalImplicit) (k4 : scope.names.lookup ("__class__" : Str) = some .free)
    (npv : pv ≠ "self") (hpd : (pv == ("__debug__" : Str)) = false) (hcell : ∀ x ∈ scope.names, x.2 ≠ .cell) (hco : scope.isCoroutine = false) (hgen : scope.isGenerator = false) (hk : scope.kind = .function)
    (hq : ∀ h' t' dx, (∀ b o, b ≠ e → s.heap.get? b = some o → h'.get? b = some o) → s.heap.objs.size ≤ dx → dx ≠ e →
      (∃ t1 : Addr, h'.get? e = some ({ cls := .ref C, dict := some dx, data := .fields #[.ref t1, .none, .none, .none, .bool false, .none] } : Obj)) → h'.Ns1 dx (fun y => if y = fld then some u else none) →
      R (.ok (.ret .none)) { s with heap := h', toks := t' }) :
    codeAny (model prog w) A (.call (.ref fI) ⟨[.ref e, u], []⟩) R s := by
  obtain ⟨oc, kV, doc, pm, ct, an, od, cda, cc, osl, ccl, cl, cdd, cld, vs, ccs, csl, file, tf, lkF, code, lkC, hvs, hfile, lkCell⟩ := T.fun_
  obtain ⟨nm, q, N, bs, bm, sn, sub, ab, col, dd, c0, c1, c2, c3, c5, hC, hbm⟩ := T.cls.cls
  have hcl : PySem.W.clsIn K C = some { name := nm, bases := bs, mro := .ref C :: bm, ns := N, qualname := q, hasDict := true, slotNames := sn, subclasses := sub, abstract := ab, collection := col, hasDel := false } := by
    unfold PySem.W.clsIn
    rw [hC] <;> rfl
  obtain ⟨ar, har, hself⟩ : ∃ ar, (params.posonlyargs ++ params.args).head? = some ar ∧ ar.arg = "self" := by
    cases z : (params.posonlyargs ++ params.args).head? with
    | none => rw [z] at hpar; cases hpar
    | some ar => rw [z] at hpar; exact ⟨ar, rfl, Option.some.inj hpar⟩
  have eC : e ≠ C := fun z => by
    have z1 := kin _ _ hC
    rw [z, z1] at he
    cases he
  refine ks_codeAny_call_defAt (fd := ksFn "__init__" qual params (errBody msg pv fld j p0 p1 p2 p3 p4 p5 p6 p7 p8 p9) scope .none kV doc pm an (.ref cda) ct cc) (body := errBody msg pv fld j p0 p1 p2 p3 p4 p5 p6 p7 p8 p9) (binds := [(("self" : Str), .ref e), (pv, u)])
    dep (kin _ _ lkF) rfl lim (PySem.W.codeRec_of kin code) rfl (.of_eq (bind ..)) hcell (fun y hy => ?_) (fun h1 ns1 kp1 => ?_) hco hgen hk
  · rcases List.mem_cons.mp hy with z | z
    · rw [z]; exact k1
    · rcases List.mem_cons.mp z with z | z
      · rw [z]; exact k2
      · cases z
  have kin1 : K.In h1 := kin.keeps kp1
  obtain ⟨hp, g, d, t, os⟩ := s
  have hint : interactive (callEnv (ksFn "__init__" qual params (errBody msg pv fld j p0 p1 p2 p3 p4 p5 p6 p7 p8 p9) scope .none kV doc pm an (.ref cda) ct cc) hp.objs.size fI) = false := by
    unfold interactive
    simp [callEnv, newEnv, hk]
  refine ks_wpAt_execs_cons (ks_wpAt_Expr_any (ks_wpAt_MethodCall (ks_wpAt_super_base k3 k4 (by decide) rfl (kin1 _ _ lkF) rfl har rfl (kin1 _ _ lkC) rfl hvs hfile T.top ?_) (hev _)) hint)
  refine PySem.W.ks_loadName_global hk k3 (loadGlobal_builtin (nsm.keeps kp1) (PySem.W.mg_none_of kin nsm T.nosup) (nsb.keeps kp1) ((mbb _ (by decide +kernel)).trans (by decide +kernel)) ⟨rfl, ?_⟩)
  refine wpAny_loadName_free hk k4 rfl ⟨_, kin1 _ _ lkCell, rfl⟩ ?_
  rw [hself]
  refine wpAny_loadName_local hk k1 ns1 (v := .ref e) ?_ ?_
  · show List.lookup ("self" : Str) ([(("self" : Str), Value.ref e), (pv, u)] : List (Str × Value)).reverse = _
    simp [List.lookup, beq_eq_false_iff_ne.mpr (Ne.symm npv)]
  have he1 : h1.get? e = some (PySem.HandSPX.excO C t0) := kp1 _ _ he
  have hD1 := kin1 _ _ hC
  refine ks_wpAny_isType_cls hD1 rfl ⟨rfl, ?_⟩
  refine ks_wpAny_call_super hD1 rfl he1 rfl (fun c z => by cases z) (PySem.W.looks_mroIn kin1 T.self_) (fun h2 eso kp2 => ?_)
  have kin2 : K.In h2 := kin1.keeps kp2
  have he2 := kp2 _ _ he1
  have inst2 : PySem.W.InstAt h2 e (PySem.HandSPX.excO C t0) C none := ⟨he2, rfl, rfl, trivial⟩
  have sup := T.up
  unfold PySem.W.ks_superIn at sup
  rw [hcl] at sup
  refine PySem.W.kxs_getMethod PySem.W.kxs_ValueError eso (PySem.W.looks_opaque kin2 T.opq) (l₀ := Value.ref C :: bm) (fun A Q E s k q => wpAny_bind ((PySem.W.looks_clsIn kin2 hcl) A _ E s k (wpAny_pure q))) rfl kin2 sup (inst2.type.andThen (PySem.W.looks_subIn kin2 T.sub)) eC (by decide) ?_
  have ku := Heap.get?_push_size h2 (o := PySem.W.kxs_mw "ValueError.__init__" e) rfl
  have kp3 : ∀ b o, h2.get? b = some o → (h2.push (PySem.W.kxs_mw "ValueError.__init__" e)).get? b = some o := fun b o z => Heap.get?_push_of_some _ z
  refine PySem.W.kxs_callWith (i := "ValueError.__init__") (x := e) rfl (evalArgs_plain (Calls.spliced_cons (Calls.Constant_str (k := j) (pos := p3) (Calls.spliced_nil ⟨ku, ?_⟩))))
  have he3 := kp3 _ _ he2
  have hC3 := kp3 _ _ (kp2 _ _ hD1)
  refine wpAny_call (codeAny_of_tree ?_)
  show wpAny _ (Around.in1 _) (callAny (.ref h2.objs.size) ⟨[.str msg _], []⟩) _ _ _
  simp only [callAny]
  refine wpAny_bind (wpAny_load ku ?_)
  simp only [PySem.W.kxs_mw, show (Value.type "method-wrapper" == Value.type "method" || Value.type "method-wrapper" == Value.type "builtin_function_or_method" || Value.type "method-wrapper" == Value.type "method-wrapper") = true by decide, if_true]
  refine PySem.W.KFB.if_so (by decide) ?_
  refine wpAny_bind (PySem.W.check_bound_init PySem.F.excBase_ValueError.toExcCallFacts hC3 he3 rfl ?_)
  refine wpAny_bind (wpAny_pure (wpAny_pure ?_))
  refine ⟨plainId_quiet PySem.F.excBase_ValueError.init.plain _, codeAny_builtin PySem.F.excBase_ValueError.initEntry ?_⟩
  refine PySem.W.exc_init_tree (cls := .ref C) (t0 := t0) (dv := none) (c2 := .none) (c3 := .none) (b4 := .bool false) he3 (by show 1 ≤ sizeLine; rw [sizeLine_eq]; omega) fun h4 kp4 he4 _ => ?_
  have neF : hp.objs.size ≠ e := Nat.ne_of_gt (Heap.lt_size he)
  have kin4 : K.In h4 := fun b o z => kp4 b o (fun y => by
    rw [y, nK] at z
    cases z) (kp3 _ _ (kin2 b o z))
  have ns4 : h4.Ns hp.objs.size (fun y => ([(("self" : Str), Value.ref e), (pv, u)] : List (Str × Value)).reverse.lookup y) := by
    obtain ⟨o, es, ep, ho, r⟩ := ns1
    exact ⟨o, es, ep, kp4 _ _ neF (kp3 _ _ (kp2 _ _ ho)), r⟩
  refine ks_wpAt_execs_cons (ks_wpAt_Assign_Attr ?_)
  refine wpAt_of_wpAny (wpAny_Name ?_ hpd)
  refine wpAny_loadName_local hk k2 ns4 (v := u) ?_ ?_
  · show List.lookup pv ([(("self" : Str), Value.ref e), (pv, u)] : List (Str × Value)).reverse = _
    simp [List.lookup]
  refine wpAny_Name ?_ (by decide)
  refine wpAny_loadName_local hk k1 ns4 (v := .ref e) ?_ ?_
  · show List.lookup ("self" : Str) ([(("self" : Str), Value.ref e), (pv, u)] : List (Str × Value)).reverse = _
    simp [List.lookup, beq_eq_false_iff_ne.mpr (Ne.symm npv)]
  refine PySem.W.set_plain kin4 (ox := _) (od := none) ⟨he4, rfl, rfl, trivial⟩ T.cls.sa ?_
  refine PySem.HandSPX.exc_osa kin4 he4 hcl (show PySem.HandSPX.refsVE (.ref C :: bm) = true from hbm) rfl T.nofld (fun h5 tk5 dx kp5 dn dne hx hn => ?_)
  show _root_.PySem.wpAt _ _ _ (execs [] _) _ _ _
  refine wpAt_of_wpAny (wpAny_execs_nil (hq h5 tk5 dx (fun b o ne z => kp5 b o ne (kp4 b o ne (kp3 _ _ (kp2 _ _ (kp1 _ _ z))))) ?_ dne ⟨_, hx⟩ hn))
  obtain ⟨oL, _, _, hoL, _⟩ := ns4
  exact Nat.le_trans (Nat.le_of_lt (Heap.lt_size hoL)) dn
end

section
variable {X : Cx} {k : Nat} {C fI : Addr} {x qual pv fld msg : Str} {params : Arguments} {scope : Scope} {j : Nat} {p0 p1 p2 p3 p4 p5 p6 p7 p8 p9 p pos : Pos} {e : Expr} {es : List Expr} {ta : TA}
/-- the making of an own error: its reading -/
def tErr (C : Addr) (fld : Str) (ta : TA) : L2.St → Hp → XK → Prop := fun σ H Q => ta σ H fun vs H1 => ∃ v, vs = [v] ∧ ∀ (dx : Addr) (H2 : Hp), H1 dx = none → H2 dx = some (.xd [(fld, v)]) → (∀ b, b ≠ dx → H2 b = H1 b) → Q (.ref C) (some dx) H2
theorem pmk_err (T : ErrC X.prog X.K C fI qual pv fld params (errBody msg pv fld j p0 p1 p2 p3 p4 p5 p6 p7 p8 p9) scope) (TT : ErrT qual pv fld msg params scope j p0 p1 p2 p3 p4 p5 p6 p7 p8 p9)
    (hr : Room (k + 1) X.A) (hg : Gl X x) (hm : X.mg x = some (.ref C)) (ha : PA X (e :: es) ta)
    (hdb : (x == ("__debug__" : Str)) = false := by decide) (hs : starEach (e :: es) X.env = (false, eval e X.env) :: starEach es X.env := by rfl) (hpl : (backTo pos (starEach es X.env)).any (·.1) = false := by rfl) :
    PMk X (.Call (.Name x p) (e :: es) [] pos) (tErr C fld ta) := by
  intro pins s σ H Q I h
  obtain ⟨nm, q, N, bs, bm, sn, sub, ab, col, dd, c0, c1, c2, c3, c5, hC, hbm⟩ := T.cls.cls
  refine wpAny_Call_Name_kw (ld_glob I hg hm ?_ hdb)
  refine PySem.W.callWith_K (h₀ := X.base) I.ok.mod.kin T.cls.kC (thn (ha.run pos pins s σ H _ I h) fun us s1 ⟨vs, H1, I1, r1, q1⟩ => ⟨I1.kIn, ?_⟩) hs hpl
  obtain ⟨v, ev, q1⟩ := q1
  subst ev
  obtain ⟨u, eu, ru⟩ := vals1 r1
  subst eu
  show wpAny _ _ (call (.ref C) [u]) _ _ _
  have mod := I1.mod
  obtain ⟨mb, nsb0, mbb⟩ := mod.blt
  have nsm := mod.glob.keeps I1.bk
  have nsb := nsb0.keeps I1.bk
  have lim := I1.nolimit
  have kin := I1.kIn
  have bare := I1.bare
  have fresh : ∀ {b : Addr}, s1.heap.objs.size ≤ b → H1 b = none := fun hb => I1.hok.fresh hb
  obtain ⟨hp, g, dr, tk, os⟩ := s1
  have kk : ∀ b o, hp.get? b = some o → ((hp.push (PySem.W.kdv_tup [u])).push (PySem.HandSPX.excO C hp.objs.size)).get? b = some o := fun b o z => Heap.get?_push_of_some _ (Heap.get?_push_of_some _ z)
  have hget : ((hp.push (PySem.W.kdv_tup [u])).push (PySem.HandSPX.excO C hp.objs.size)).get? (hp.objs.size + 1) = some (PySem.HandSPX.excO C hp.objs.size) := by heap_get
  have nK : X.K.lookup (hp.objs.size + 1) = none := by
    cases z : X.K.lookup (hp.objs.size + 1) with
    | none => rfl
    | some o => exact absurd (Heap.lt_size (kin _ _ z)) (Nat.not_lt.mpr (Nat.le_succ _))
  refine wpAny_call (PySem.HandSPX.call_own F.excBase_ValueError (fun Y => PySem.HandSPX.refsVE_contains Y bm hbm) (kin _ _ hC) (PySem.W.looks_findIn kin T.ini) (fun self => PySem.W.bind_fn kin self T.fn) (by show 1 ≤ sizeLine; rw [sizeLine_eq]; omega)
    (err_init (mg := X.mg) (mb := mb) (t0 := hp.objs.size) (e := hp.objs.size + 1) (u := u) T (kin.keeps kk) (nsm.keeps kk) (nsb.keeps kk) mbb (lim.keeps kk) (hr.make C [u] []).depth hget nK TT.bind TT.ev.choose TT.ev.choose_spec TT.par TT.k1 TT.k2 TT.k3 TT.k4 TT.npv TT.npd TT.cell TT.co TT.gen TT.kind
      fun h' t' dx kp dn dne hx hn => ⟨rfl, ?_⟩))
  obtain ⟨t1, hx⟩ := hx
  have dn' : hp.objs.size ≤ dx := Nat.le_trans (by simp only [Heap.size_push]; omega) dn
  have ne_old : ∀ {b : Addr} {o : Obj}, hp.get? b = some o → b ≠ hp.objs.size + 1 := fun z => Nat.ne_of_lt (Nat.lt_succ_of_lt (Heap.lt_size z))
  obtain ⟨G, g1, g2⟩ := restrict h' fun b => decide (b ≠ hp.objs.size + 1)
  have gk : ∀ b, b ≠ hp.objs.size + 1 → G.get? b = h'.get? b := fun b hb => g1 b (decide_eq_true hb)
  have ge : G.get? (hp.objs.size + 1) = none := g2 _ (by simp)
  have J : Inv X pins σ (upd H1 dx (.xd [(fld, v)])) ⟨G, g, dr, t', os⟩ := I1.laid (h' := G) (a := dx) (o := .xd [(fld, v)]) (t' := t') (fun b o z => (gk b (ne_old z)).trans (kp b o (ne_old z) (kk b o z))) dn'
    ⟨_, hn.at fun o y => (gk dx dne).trans y, relO_put (fs := []) ru fun g => True.intro⟩
  have nd : H1 dx = none := fresh dn'
  have na : upd H1 dx (.xd [(fld, v)]) (hp.objs.size + 1) = none := by
    rw [upd_ne (Ne.symm dne)]
    exact fresh (Nat.le_succ _)
  refine ⟨hp.objs.size + 1, _, _, ⟨G, g, dr, t', os⟩, _, .ref C, some dx, rfl, J, fun b o z => ?_, ge, hx, ⟨rfl, rfl⟩, rfl, rfl, na, rfl, bare, raises_own T.cls.exC T.cls.tyC, q1 dx _ nd upd_same fun b nb => upd_ne nb⟩
  by_cases hb : b = hp.objs.size + 1
  · rw [hb, ge] at z
    cases z
  · exact (gk b hb).symm.trans z
end
end KG

set_option Elab.async false
set_option linter.all false
set_option maxRecDepth 100000
set_option maxHeartbeats 1000000
/-! KH: a lambda without parameters handed to a def of the text, where nothing is shown; the end of a law whose defs lay code objects. -/
namespace KG
open PySem PySem.Spec PySem.Calls PyProof.Rows L2 LamX

/-- the lambda: its names, no parameters -/
structure LamT (sc scope : Scope) (params : Arguments) (body : Expr) : Prop where
  names : LamS sc scope
  bind : ∀ (q : Str) (cl : List (Str × Addr)) (pm cv ctv : Value), bindArgs (PySem.W.kla_fn "<lambda>" q params body scope cl pm cv ctv) ⟨[], []⟩ = pure []

/-- the frame of the def g that got it, entered from X at s -/
abbrev inDef (X : Cx) (N : List Str) (x : Str) (st : Stmt) (g : Addr) (cd : Value) (s : Shared) (H : Hp) : Cx := cxOf C8.CX0 X.prog X.w X.K X.mg X.base N x (defScope st) g cd X.A X.stack s H C8.E0
section
variable {X : Cx} {pins : List (Addr × Obj)} {σ : L2.St} {H HZ : Hp} {s : Shared} {k i : Nat} {N : List Str} {x a : Str} {st : Stmt} {g f c' : Addr} {cd pm ctv : Value} {params : Arguments} {body : Expr} {scope : Scope} {W : WX} {E : XK} {tb : TE} {p1 p2 : Pos}
/-- the lambda runs: from a frame over X's, at s1 -/
theorem lam_run {s1 : Shared} {env : Env} {A : Around} {Q : VK} (I : Inv X pins σ H s) (L : LamT X.env.scope scope params body) (e0 : Env0 X.prog X.w X.K X.mg X.base A (env :: X.stack) s1 HZ) (un : Un (frs X.stack) [] H HZ s.heap s1.heap) (lim : s1.heap.NoLimit)
    (rm : Room (k + 1) A) (gd : A.guards = some []) (fo : s1.heap.get? f = some (PySem.W.kla_obj "<lambda>" (X.env.qual ++ "<lambda>") params body scope (cloFrom X.env.cells scope.names []) pm c' ctv)) (co : ∃ (oc : Obj) (vs : Array Value) (t : Tok), s1.heap.get? c' = some oc ∧ oc.data = .fields vs ∧ vs[1]? = some (.str (X.env.qual ++ "<lambda>") t))
    (hbody : Room k (A.deeper (lamEnv X scope s1.heap.objs.size f c')) → (A.deeper (lamEnv X scope s1.heap.objs.size f c')).guards = some [] → PE (lamCx X A (env :: X.stack) s1 HZ E scope f c') body tb) (q : tb σ HZ Q) :
    codeAny (model X.prog X.w) A (.call (.ref f) ⟨[], []⟩) (CR (L2.CX X.prog X.w) (env :: X.stack) X.prog X.w HZ s1 Q E) s1 := by
  obtain ⟨oc, vs, t, g1, g2, g3⟩ := co
  refine PySem.W.kla_callFunE rm.depth fo rfl L.names.co L.names.gen rfl ⟨c', oc, vs, t, rfl, g1, g2, g3⟩ ?_
  rw [L.bind]
  refine wpAny_pure (wpAny_newFunctionEnv (fun y hy => (L.names.own y hy).2) (fun y hy => absurd hy List.not_mem_nil) (fun h2 ns2 sb2 => ⟨lim.fresh _ sb2, PySem.W.kla_codeExpr ?_⟩) L.names.kind)
  have kp : ∀ b o, s1.heap.get? b = some o → h2.get? b = some o := fun b o z => sb2.extBut b o (Nat.ne_of_lt (Heap.lt_size z)) (Heap.get?_push_of_some _ z)
  have J := lam_start2 (tk := s1.toks + ([] : List (Str × Value)).length) (E := E) (c' := c') (f := f) I L.names e0 rm.hd un ns2 kp
  exact wpAny_mono ((hbody (rm.deeper _) gd).run [] _ _ HZ Q J q) (fun v s' ⟨y, H', J', r, z⟩ => ⟨y, H', J'.os, J'.bare, J'.base, J'.hok, r, z⟩) fun _ _ z => z
/-- what stands at the name a is the lambda at f: a() -/
def Act (X : Cx) (N : List Str) (x : Str) (st : Stmt) (g : Addr) (cd : Value) (s : Shared) (H : Hp) (a : Str) (f c' : Addr) (tl : XK → Hp → VK → Prop) : Prop :=
  ∀ (W : WX) (pn : List (Addr × Obj)) (xe : Value → Shared → Prop) (p1 p2 : Pos), Takes ((inDef X N x st g cd s H).tr pn xe) W →
    PE ((inDef X N x st g cd s H).tr pn xe) (.Call (.Name a p1) [] [] p2) (fun σZ HZ Q => σZ[0]? = some (some (.ref f)) ∧ HZ c' = some (CodeO c' (X.env.qual ++ "<lambda>")) ∧ ∃ E : XK, (∀ cls d H', E cls d H' → W cls d σZ H') ∧ tl E HZ Q)
theorem act_of {t : XK → TE} (I : Inv X pins σ H s) (L : LamT X.env.scope scope params body) (fo : s.heap.get? f = some (PySem.W.kla_obj "<lambda>" (X.env.qual ++ "<lambda>") params body scope (cloFrom X.env.cells scope.names []) pm c' ctv)) (fn : H f = none) (ff : f ∉ frs X.stack)
    (rm : Room (k + 2) X.A) (gd : X.A.guards = some [])
    (hbody : ∀ (A : Around) (outer : List Env) (s : Shared) (H : Hp) (E : XK), Room k (A.deeper (lamEnv X scope s.heap.objs.size f c')) → (A.deeper (lamEnv X scope s.heap.objs.size f c')).guards = some [] → PE (lamCx X A outer s H E scope f c') body (t E))
    (hN : N[0]? = some a) (hv : Vis (defScope st) a) (hd : (a == ("__debug__" : Str)) = false) (hcd : (a == ("__classdict__" : Str)) = false) : Act X N x st g cd s H a f c' (fun E HZ Q => t E σ HZ Q) := by
  intro W pn xe p1 p2 tk
  refine ⟨fun pinsZ sZ σZ HZ Q IZ ⟨at0, hco, E, hW, hq⟩ => ?_⟩
  refine wpAny_Call_Name_kw (thn ((pe_var (pos := p1) (i := 0) hN hv hd hcd).run pinsZ sZ σZ HZ (fun v H1 => v = .ref f ∧ H1 = HZ) IZ ⟨.ref f, at0, rfl, rfl⟩) fun u s1 ⟨v, H1, I1, r1, ev, eH⟩ => ?_)
  subst ev
  subst eH
  obtain rfl : u = Value.ref f := r1
  have fo1 := I1.base.keep f _ fo fn ff (fun z => nomatch (show f ∈ ([] : List Addr) from z))
  have co1 := (I1.hok c' _ hco).1
  have rc : codeAny (model X.prog X.w) (X.A.deeper (envOfC x (defScope st) s.heap.objs.size g cd)) (.call (.ref f) ⟨[], []⟩) (CR (L2.CX X.prog X.w) (envOfC x (defScope st) s.heap.objs.size g cd :: X.stack) X.prog X.w H1 s1 Q E) s1 :=
    lam_run (X := X) (k := k) (Q := Q) (E := E) (tb := t E) (params := params) (body := body) (scope := scope) (pm := pm) (ctv := ctv) (c' := c') (f := f) I L I1.env0 I1.base I1.nolimit (rm.deeper _) gd fo1 co1 (fun r2 g2 => hbody _ _ _ _ _ r2 g2) hq
  refine PySem.W.callWith_F0 ⟨_, _, _, _, fo1⟩ (wpAny_call (codeAny_mono rc fun out s' ho => ?_))
  cases out with
  | error e => exact tk e s' (XE.of_call I1 (fun cls d H' h => hW cls d H' h) ho)
  | ok fl =>
    cases fl with
    | ret u => exact I1.after ho
    | next => exact False.elim ho
    | brk => exact False.elim ho
    | cont => exact False.elim ho
/-- the def that gets it: what it makes of the lambda's reading -/
def Gives (X : Cx) (x : Str) (st : Stmt) (a : Str) (TT : (XK → Hp → VK → Prop) → Hp → VK → Prop) : Prop :=
  ∃ N : List Str, FnScope N [a] (defScope st) ∧ N[0]? = some a ∧ Vis (defScope st) a ∧ ∀ (g : Addr) (cd : Value) (f c' : Addr) (s : Shared) (H : Hp) (Q : VK) (tl : XK → Hp → VK → Prop), Act X N x st g cd s H a f c' tl → H c' = some (CodeO c' (X.env.qual ++ "<lambda>")) → TT tl H Q →
    ∃ t, PSs (inDef X N x st g cd s H).nox (defBody st) t ∧ t { nx := fun _ H' => Q .non H', rt := Q } (L2.start N [.ref f]) H
/-- x(lambda: body) -/
theorem pe_lam {T : List (Addr × Str)} {TT : (XK → Hp → VK → Prop) → Hp → VK → Prop} {t : XK → TE} {c P : Addr} {p lpos pos : Pos} (D : DefAt X.K X.mg x st [a]) (G : Gives X x st a TT) (hg : Gl X x) (TB : TabB X.base X.mg c P) (hcode : X.env.code = .ref c)
    (hmT : (P, X.env.qual ++ "<lambda>") ∈ T) (hu : ∀ p ∈ T, p.1 = P → p.2 = X.env.qual ++ "<lambda>") (rm : Room (k + 2) X.A) (gd : X.A.guards = some []) (L : LamT X.env.scope scope params body) (hdef : defaultsOf params X.env = ([], []))
    (hbody : ∀ (A : Around) (outer : List Env) (s : Shared) (H : Hp) (E : XK) (f c' : Addr), Room k (A.deeper (lamEnv X scope s.heap.objs.size f c')) → (A.deeper (lamEnv X scope s.heap.objs.size f c')).guards = some [] → PE (lamCx X A outer s H E scope f c') body (t E))
    (hdb : (x == ("__debug__" : Str)) = false := by decide) (hd : (a == ("__debug__" : Str)) = false := by decide) (hcd : (a == ("__classdict__" : Str)) = false := by decide) : PE X (.Call (.Name x p) [.Lambda params body scope lpos] [] pos) (tLam T TT t) := by
  obtain ⟨g, fd, hm, F, b⟩ := D.ex
  obtain ⟨oc, od, kV, doc, pm, an, cdv, ct, osl, rfl, lk, hcg⟩ := F.ex
  obtain ⟨N, sc, hN, hv, G⟩ := G
  refine ⟨fun pins s σ H Q I ⟨hT, h⟩ => wpAny_Call_Name_kw (ld_glob I hg hm (PySem.W.callWith_K (h₀ := X.base) I.ok.mod.kin F.kp ?_ (by rfl) (by rfl)) hdb)⟩
  show wpAny _ _ (spliced ((false, eval (.Lambda params body scope lpos) X.env) :: backTo pos (starEach [] X.env))) _ _ s
  refine spliced_cons (lam_make2 I TB hcode hmT hu hT hdef (L.names.has I.ok) fun f c' pm' ctv H1 s' I1 eN T1 fo fn ff hco => spliced_nil ⟨I1.kIn, ?_⟩)
  refine wpAny_call (codeAny_mono (run_ofS (k := k + 1) (N := N) (ps := [a]) (us := [.ref f]) (vs := [.ref f]) (E := C8.E0) (CX := C8.CX0) (Q := Q) (H := H1) (outer := X.stack) (args := ⟨[.ref f], []⟩) lk hcg sc rm I1.env0 (b s' [.ref f] I1.kIn rfl) (.cons rfl .nil) rfl fun rm2 => ?_) fun out s2 ho => ?_)
  · obtain ⟨tt, h1, h2⟩ := G g cdv f c' s' H1 Q (fun E HZ Q => t E σ HZ Q) (act_of (k := k) I1 L fo fn ff rm gd (fun A outer s H E r2 g2 => hbody A outer s H E f c' r2 g2) hN hv hd hcd) hco (h H1 eN T1)
    exact ⟨tt, h1.nox, h2⟩
  · cases out with
    | error e => exact (show False from ho).elim
    | ok fl =>
      cases fl with
      | ret u => exact I1.after ho
      | next => exact False.elim ho
      | brk => exact False.elim ho
      | cont => exact False.elim ho
end
end KG

set_option Elab.async false
set_option linter.all false
set_option maxRecDepth 100000
set_option maxHeartbeats 1000000
/-! KT: the end of a law over promises where nothing is shown, the tables of code objects of its defs known. -/
namespace KG
open PySem PySem.Spec PySem.Calls PyProof.Rows L2 LamX

/-- the abstract heap at the start: the tables, the script -/
def H0 (K : PySem.W.Frag) (T : List Addr) (a : Addr) (vs : List Value) (ns : List Int) : Hp := fun b =>
  if b ∈ T then some (.tbl #[]) else if b = a ∧ K.lookup a = none then some (.frz { cls := .type "list", data := .seq vs.toArray } (.lst (ns.map V.int))) else none
section
variable {K : PySem.W.Frag} {T : List Addr} {a : Addr} {vs : List Value} {ns : List Int}
theorem H0_tab {b : Addr} (h : b ∈ T) : H0 K T a vs ns b = some (.tbl #[]) := if_pos h
theorem H0_a (h : a ∉ T) (hk : K.lookup a = none) : H0 K T a vs ns a = some (.frz { cls := .type "list", data := .seq vs.toArray } (.lst (ns.map V.int))) := (if_neg h).trans (if_pos ⟨rfl, hk⟩)
theorem H0_some {b : Addr} {u : HO} (h : H0 K T a vs ns b = some u) : (b ∈ T ∧ u = .tbl #[]) ∨ (b ∉ T ∧ b = a ∧ K.lookup a = none ∧ u = .frz { cls := .type "list", data := .seq vs.toArray } (.lst (ns.map V.int))) := by
  by_cases h1 : b ∈ T
  · rw [H0_tab h1] at h
    exact .inl ⟨h1, (Option.some.inj h).symm⟩
  · by_cases h2 : b = a ∧ K.lookup a = none
    · have e := ((if_neg h1).trans (if_pos h2)).symm.trans h
      exact .inr ⟨h1, h2.1, h2.2, (Option.some.inj e).symm⟩
    · have e := ((if_neg h1).trans (if_neg h2)).symm.trans h
      cases e
end

theorem law_gdT {P : Program} {w : World} {K : PySem.W.Frag} {mg mb : Str → Option Value} {CX : CXT} {k : Nat} {fa a : Addr} {cs : List (Addr × Addr)} {fd : FuncData} {x : Str} {sp : Sp} {s1 : Shared} {vs : List Value} {ns : List Int}
    (kin : K.In s1.heap) (nsm : s1.heap.Ns mainGlobals mg) (nsb : s1.heap.Ns builtinsNs mb) (mbb : ∀ x : Str, x ≠ "__name__" → mb x = bootBuiltins x) (lim : s1.heap.NoLimit) (nog : s1.gens = #[])
    (tab : ∀ p ∈ cs, s1.heap.get? p.2 = some { cls := .none, data := .fields #[] }) (notK : ∀ p ∈ cs, K.lookup p.2 = none) (code : ∀ p ∈ cs, PySem.W.CodeHd s1.heap p.1 p.2)
    (bmain : ∃ (bm : Addr) (ob : Obj), mg "__builtins__" = some (.ref bm) ∧ bm ≠ builtinsNs ∧ s1.heap.get? bm = some ob ∧ ob.cls = .type "module" ∧ ob.dict = some builtinsNs ∧ ob.data = .plain)
    (atA : s1.heap.get? a = some { cls := .type "list", data := .seq vs.toArray }) (isn : IntsAre vs ns) (small : ns.length ≤ sizeLine) (rm : Room k callerA)
    (F : ∀ base : Heap, K.In base → base.Ns mainGlobals mg → (∀ p ∈ cs, TabB base mg p.1 p.2) → Gd P w K mg base CX k fa fd [x] sp) (bt : ∀ (s : Shared) (u : Value), BindsTo s fd ⟨[u], []⟩ [(x, u)])
    (start_ : ∀ H : Hp, (∀ p ∈ cs, H p.2 = some (.tbl #[])) → SqL K H a (ns.map V.int) → sp [.ref a] H (fun v _ => v = .bl true) fun _ _ _ => False)
    (quiet : ∀ H e s', CX [] H s1 (fun _ _ _ => False) e s' → False) :
    codeAny (model P w) callerA (.call (.ref fa) ⟨[.ref a], []⟩) (fun r s' => r = .ok (.ret (.bool true)) ∧ OldK s1.heap s'.heap ∧ s'.os = s1.os ∧ AllBare s'.gens) s1 := by
  have rv := vals_ints isn
  have inT : ∀ p ∈ cs, p.2 ∈ cs.map (·.2) := fun p hp => List.mem_map_of_mem hp
  have ofT : ∀ b ∈ cs.map (·.2), ∃ p ∈ cs, p.2 = b := fun b hb => List.mem_map.mp hb
  have emp : ∀ b ∈ cs.map (·.2), s1.heap.get? b = some { cls := .none, data := .fields #[] } := fun b hb => by
    obtain ⟨p, hp, e⟩ := ofT b hb
    exact e ▸ tab p hp
  have aT : a ∉ cs.map (·.2) := fun z => by
    have y := emp a z
    rw [atA] at y
    exact nomatch congrArg Obj.data (Option.some.inj y)
  -- what is no table and no list is not tracked
  have plain : ∀ {b : Addr} {o : Obj}, s1.heap.get? b = some o → o.data ≠ .fields #[] → (∀ its n, o.data ≠ .seq its n) → H0 K (cs.map (·.2)) a vs ns b = none := fun {b o} e n1 n2 => by
    cases z : H0 K (cs.map (·.2)) a vs ns b with
    | none => rfl
    | some u =>
      rcases H0_some z with ⟨y, _⟩ | ⟨_, y, _⟩
      · rw [emp b y] at e
        cases e
        exact (n1 rfl).elim
      · rw [y, atA] at e
        cases e
        exact (n2 _ _ rfl).elim
  have ofK : ∀ {b : Addr} {o : Obj}, K.lookup b = some o → H0 K (cs.map (·.2)) a vs ns b = none := fun {b o} e => by
    cases z : H0 K (cs.map (·.2)) a vs ns b with
    | none => rfl
    | some u =>
      rcases H0_some z with ⟨y, _⟩ | ⟨_, y, n, _⟩
      · obtain ⟨p, hp, ep⟩ := ofT b y
        rw [← ep, notK p hp] at e
        cases e
      · rw [y, n] at e
        cases e
  have hok : HOk P w (H0 K (cs.map (·.2)) a vs ns) s1.heap := fun b u z => by
    rcases H0_some z with ⟨y, rfl⟩ | ⟨_, rfl, _, rfl⟩
    · exact emp b y
    · exact ⟨atA, by rw [List.length_map]; exact small, vs, _, rv, atA⟩
  have sq : SqL K (H0 K (cs.map (·.2)) a vs ns) a (ns.map V.int) := by
    cases hk : K.lookup a with
    | some o =>
      have e := kin a o hk
      rw [atA] at e
      cases e
      exact .inr ⟨_, vs.toArray, _, hk, rfl, rfl, rfl, by rw [List.size_toArray, isn.length]; exact small, by simpa using rv⟩
    | none => exact .inl (.inr ⟨_, H0_a aT hk⟩)
  have keepN : ∀ {b : Addr} {m : Str → Option Value}, s1.heap.Ns b m → (hidT s1.heap (H0 K (cs.map (·.2)) a vs ns)).Ns b m := fun {b m} ⟨o, es, ep, e, d, r⟩ =>
    ⟨o, es, ep, hidT_get e (plain e (by rw [d]; exact nofun) (by rw [d]; exact nofun)), d, r⟩
  have kinH : K.In (hidT s1.heap (H0 K (cs.map (·.2)) a vs ns)) := fun b o e => hidT_get (kin b o e) (ofK e)
  have mod : Mod K mg (hidT s1.heap (H0 K (cs.map (·.2)) a vs ns)) := ⟨kinH, keepN nsm, ⟨mb, keepN nsb, mbb⟩, lim.elim fun mc h => ⟨mc, keepN h.1, h.2⟩⟩
  have tb : ∀ p ∈ cs, TabB (hidT s1.heap (H0 K (cs.map (·.2)) a vs ns)) mg p.1 p.2 := fun p hp => by
    obtain ⟨o, us, file, tf, flags, tg, inF, text, tt, e1, r1, r2, r3, rr⟩ := code p hp
    obtain ⟨bm, ob, b1, b2, b3, b4, b5, b6⟩ := bmain
    have other : ∀ {q : Addr}, q ≠ bm → True := fun _ => trivial
    refine ⟨⟨o, us, file, tf, flags, tg, inF, text, tt, hidT_get e1 (plain e1 (fun z => ?_) (by rw [r2]; exact nofun)), r1, r2, r3, rr⟩, ⟨bm, ob, b1, b2, fun z => ?_, fun z => ?_, hidT_get b3 (plain b3 (by rw [b6]; exact nofun) (by rw [b6]; exact nofun)), b4, b5, b6⟩, fun z => ?_⟩
    · rw [r2] at z
      cases z
      simp at r3
    · obtain ⟨oM, _, _, eM, dM, _⟩ := nsm
      rw [z, eM] at b3
      cases b3
      rw [b6] at dM
      cases dM
    · rw [z, tab p hp] at b3
      cases b3
      cases b6
    · obtain ⟨oM, _, _, eM, dM, _⟩ := nsm
      rw [z, tab p hp] at eM
      cases eM
      cases dM
  have e0 : Env0 P w K mg (hidT s1.heap (H0 K (cs.map (·.2)) a vs ns)) callerA [] s1 (H0 K (cs.map (·.2)) a vs ns) := ⟨rfl, mod, fun b o e => of_hidT e, Nat.le_of_eq (hidT_size _ _), trivial, fun b hb => absurd (show b ∈ ([] : List Addr) from hb) List.not_mem_nil, hok, .of_eq nog⟩
  refine codeAny_mono ((F _ kinH (keepN nsm) tb).go callerA [] s1 _ ⟨[.ref a], []⟩ [.ref a] [.ref a] _ _ rm rfl e0 (bt s1 (.ref a)) (.cons rfl .nil) (start_ _ (fun p hp => H0_tab (inT p hp)) sq)) fun r s' h => ?_
  match r, h with
  | .error e, h => exact (quiet _ e s' h).elim
  | .ok (.ret u), h =>
    obtain ⟨v, H', os, bare, un, hok', r', q⟩ := h
    have q' : v = .bl true := q
    subst q'
    obtain rfl : u = Value.bool true := r'
    have same : ∀ b o, b ∉ cs.map (·.2) → s1.heap.get? b = some o → s'.heap.get? b = some o := fun b o nb e => by
      cases z : H0 K (cs.map (·.2)) a vs ns b with
      | none => exact un.keep b o e z (by intro y; cases y) (by simp)
      | some t =>
        rcases H0_some z with ⟨y, _⟩ | ⟨_, _, _, rfl⟩
        · exact (nb y).elim
        · obtain ⟨g1, _⟩ := hok b _ z
          obtain ⟨g2, _⟩ := hok' b _ (un.frzs b _ _ z)
          rw [e] at g1
          cases g1
          exact g2
    have grown : ∀ p ∈ cs, ∃ more : Array Value, s'.heap.get? p.2 = some { cls := .none, data := .fields more } := fun p hp => by
      obtain ⟨more, z⟩ := un.tbls p.2 #[] (H0_tab (inT p hp))
      exact ⟨_, hok' p.2 _ z⟩
    refine ⟨rfl, ⟨fun b o e => ?_, fun b o e => ?_⟩, os, bare⟩
    · by_cases hb : b ∈ cs.map (·.2)
      · obtain ⟨p, hp, ep⟩ := ofT b hb
        obtain ⟨more, hm⟩ := grown p hp
        subst ep
        rw [tab p hp] at e
        cases e
        exact .inr (.inl ⟨((code p hp).tab (tab p hp)).isCodeTable, rfl, #[], more, rfl, by rw [Array.empty_append]; exact hm⟩)
      · exact .inl (same b o hb e)
    · by_cases hb : b ∈ cs.map (·.2)
      · obtain ⟨p, hp, ep⟩ := ofT b hb
        obtain ⟨more, hm⟩ := grown p hp
        exact ⟨_, ep ▸ hm⟩
      · exact ⟨o, same b o hb e⟩

/-- what the start tells of the tables of the top's defs -/
abbrev Tabs0 (q : Program) (mg : Str → Option Value) (h : Heap) : Prop :=
  ∀ d ∈ recsOf q, ∃ (a : Addr) (o : Obj) (fd : FuncData) (c P : Addr), mg d.name = some (.ref a) ∧ h.get? a = some o ∧ o.data = .func fd ∧ fd.code = .ref c ∧ h.IsCode c P #[] ∧ h.TableAt c P #[]
/-- .. of one def that the written part knows: its code object c, the table at P -/
theorem tab0 {q : Program} {K : PySem.W.Frag} {mg : Str → Option Value} {h : Heap} {x : Str} {f c P : Addr} {oc : Value} {od : Option Addr} {fd : FuncData} {sl : Array (Option Value)} (X : K.In h) (t : Tabs0 q mg h) (hr : ((recsOf q).any fun d => d.name == x) = true) (hm : mg x = some (.ref f))
    (lk : K.lookup f = some ⟨oc, od, .func fd, sl⟩) (hc : fd.code = .ref c) (hP : PySem.W.codeHdIn K c P = true) : h.get? P = some { cls := .none, data := .fields #[] } ∧ PySem.W.CodeHd h c P := by
  obtain ⟨d, hd, e⟩ := List.any_eq_true.mp hr
  obtain ⟨a', o', fd', c', P', h1, h2, h3, h4, h5, h6⟩ := t d hd
  rw [beq_iff_eq.mp e, hm] at h1
  cases h1
  rw [X _ _ lk] at h2
  cases h2
  cases h3
  rw [hc] at h4
  cases h4
  have hd1 := PySem.W.codeHd_of_K X hP
  obtain ⟨o, us, file, tf, flags, tg, inF, text, tt, e1, r1, r2, r3, rr⟩ := id hd1
  obtain ⟨⟨oc2, vc, g1, g2, g3, g4⟩, g5⟩ := h6
  rw [e1] at g1
  cases g1
  rw [r2] at g3
  cases g3
  rw [r3] at g4
  cases g4
  exact ⟨g5, hd1⟩
theorem walk_gdT {l : PySem.W.OpenLaw} {n k : Nat} {q : Program} {loose : List Str} {XP : (Str → Option Value) → Heap → Prop} {YP : World → Heap → Prop} {d : DefRec} {K : Params → PySem.W.Frag} {CX : CXT} {x : Str}
    (most : l.most = some n) (n2 : n ≤ sizeLine) (nod : d.params.defaults = []) (rm : Room k callerA)
    (hY : ∀ (w : World) (h : Heap), YP w h → (K w.params).In h)
    (F : ∀ (w : World) (mg : Str → Option Value) (fa : Addr) (h : Heap), YP w h → (K w.params).In h → h.Ns mainGlobals mg → mg d.name = some (.ref fa) → Tabs0 q mg h →
      ∃ (fd : FuncData) (cs : List (Addr × Addr)) (sp : Sp), (∀ p ∈ cs, h.get? p.2 = some { cls := .none, data := .fields #[] }) ∧ (∀ p ∈ cs, (K w.params).lookup p.2 = none) ∧ (∀ p ∈ cs, PySem.W.CodeHd h p.1 p.2) ∧ (∀ (s : Shared) (u : Value), BindsTo s fd ⟨[u], []⟩ [(x, u)]) ∧
        (∀ (H : Hp) (a : Addr) (ns : List Int), ns.length ≤ n → (∀ z ∈ ns, Builtin.Int.intBits z ≤ 1048576) → (∀ p ∈ cs, H p.2 = some (.tbl #[])) → SqL (K w.params) H a (ns.map V.int) → sp [.ref a] H (fun v _ => v = .bl true) fun _ _ _ => False) ∧
        ∀ base : Heap, (K w.params).In base → base.Ns mainGlobals mg → (∀ p ∈ cs, TabB base mg p.1 p.2) → Gd l.prog w (K w.params) mg base CX k fa fd [x] sp)
    (quiet : ∀ (H : Hp) (s : Shared) (e : Value) (s' : Shared), CX [] H s (fun _ _ _ => False) e s' → False) :
    PySem.W.WalkO q loose XP YP l.row.toRowW d [] (fun f vs => PySem.call f vs) := by
  refine Att.attach_callB most nod fun w s0 s1 mg mb fa o pm cd doc a vs ns G Y ho hd hcd hmg hobj hints hlen hbits hg => ?_
  have kin := hY w _ Y
  obtain ⟨fd, cs, sp, t1, t2, t3, hb, st, hF⟩ := F w mg fa _ Y kin G.T.g hmg G.T.tab
  exact law_gdT kin G.T.g G.T.b G.T.builtins G.T.nolimit hg t1 t2 t3 G.T.bmain hobj hints (Nat.le_trans hlen n2) rm hF hb (fun H h1 h2 => st H a ns hlen hbits h1 h2) fun H e s' => quiet H s1 e s'
end KG

set_option Elab.async false
set_option linter.all false
set_option maxRecDepth 100000
set_option maxHeartbeats 1000000
/-! KA: data of any kind, {} among them: repr, in a tuple of the written part. -/
namespace KG
open PySem PySem.Spec PySem.Calls PyProof.Rows L2

/-- x is the data d -/
def Da (H : Hp) (x : V) (d : PyData) : Prop := ∀ (X : Cx) (pins : List (Addr × Obj)) (σ : L2.St) (s : Shared) (u : Value), Inv X pins σ H s → RelV x u → ∃ as, Reads s.heap u d as
/-- .. none of its lists and dicts the table of modules -/
def Dn (H : Hp) (x : V) (d : PyData) : Prop := ∀ (X : Cx) (pins : List (Addr × Obj)) (σ : L2.St) (s : Shared) (u : Value), Inv X pins σ H s → RelV x u → ∃ as, Reads s.heap u d as ∧ sysModules ∉ as
inductive DaAll (H : Hp) : List V → List PyData → Prop
  | nil : DaAll H [] []
  | cons {x : V} {xs : List V} {d : PyData} {ds : List PyData} : Da H x d → DaAll H xs ds → DaAll H (x :: xs) (d :: ds)
section
variable {H : Hp} {x : V} {d : PyData}
theorem Dn.da (h : Dn H x d) : Da H x d := fun X pins σ s u I r => by
  obtain ⟨as, a, _⟩ := h X pins σ s u I r
  exact ⟨as, a⟩
theorem Dn.str (z : Str) : Dn H (.str z) (.str z) := fun X pins σ s u I r => by obtain ⟨t, rfl⟩ := r; exact ⟨[], .str z t, List.not_mem_nil⟩
theorem Da.non : Da H .non .none := fun X pins σ s u I r => by cases r; exact ⟨[], .none⟩
theorem Da.bl (b : Bool) : Da H (.bl b) (.bool b) := fun X pins σ s u I r => by cases r; exact ⟨[], .bool b⟩
theorem Da.int (i : Int) : Da H (.int i) (.int i) := fun X pins σ s u I r => by obtain ⟨t, rfl⟩ := r; exact ⟨[], .int i t⟩
theorem Da.str (z : Str) : Da H (.str z) (.str z) := (Dn.str z).da
theorem DaAll.reads : ∀ {xs : List V} {ds : List PyData} (_ : DaAll H xs ds) {X : Cx} {pins : List (Addr × Obj)} {σ : L2.St} {s : Shared} {us : List Value} (_ : Inv X pins σ H s) (_ : Vals xs us), ∃ as, ReadsAll s.heap us ds as
  | _, _, .nil, _, _, _, _, _, _, .nil => ⟨[], .nil⟩
  | _, _, .cons a t, X, pins, σ, s, _, I, .cons r rt => by
    obtain ⟨as, h1⟩ := a X pins σ s _ I r
    obtain ⟨bs, h3⟩ := t.reads I rt
    exact ⟨as ++ bs, .cons h1 h3⟩
theorem Da.lst {a : Addr} {xs : List V} {ds : List PyData} (h : H a = some (.lst xs)) (t : DaAll H xs ds) : Da H (.ref a) (.list ds) := fun X pins σ s u I r => by
  obtain rfl : u = Value.ref a := r
  obtain ⟨_, its, n, rv, ho⟩ := I.hok a _ h
  obtain ⟨as, h1⟩ := t.reads I rv
  exact ⟨a :: as, .list ho rfl rfl (by simpa using h1)⟩
theorem Da.tup {a : Addr} {xs : List V} {ds : List PyData} (h : H a = some (.tup xs)) (t : DaAll H xs ds) : Da H (.ref a) (.tuple ds) := fun X pins σ s u I r => by
  obtain rfl : u = Value.ref a := r
  obtain ⟨_, its, rv, ⟨o, ho, hc, n, hd⟩⟩ := I.hok a _ h
  obtain ⟨as, h1⟩ := t.reads I rv
  exact ⟨as, .tuple ho hc hd (by simpa using h1)⟩
/-- a list of two, beside the table of modules -/
theorem Dn.two {a : Addr} {z : Str} (h : H a = some (.lst [.str z, x])) (na : a ≠ sysModules) (t : Dn H x d) : Dn H (.ref a) (.list [.str z, d]) := fun X pins σ s u I r => by
  obtain rfl : u = Value.ref a := r
  obtain ⟨_, its, n, rv, ho⟩ := I.hok a _ h
  cases rv with
  | cons r1 rt =>
    obtain ⟨k, rfl⟩ := r1
    cases rt with
    | cons r2 rt =>
      cases rt
      obtain ⟨as, h1, h2⟩ := t X pins σ s _ I r2
      refine ⟨a :: ([] ++ (as ++ [])), .list ho rfl rfl (.cons (.str z k) (.cons h1 .nil)), fun hm => ?_⟩
      rcases List.mem_cons.mp hm with e | e
      · exact na e.symm
      · simp at e
        exact h2 e
theorem Dn.dict0 {a : Addr} (h : H a = some (.dK [])) : Dn H (.ref a) (.dict []) := fun X pins σ s u I r => by
  obtain rfl : u = Value.ref a := r
  obtain ⟨_, ns, vs, kv, ob, es, ep, ho, hx, hd, _, hp, _⟩ := I.hok a _ h
  cases kv
  have e : es.toList = [] := by
    cases z : es.toList with
    | nil => rfl
    | cons y ys =>
      rw [z] at hp
      cases hp
  refine ⟨[a], .dict (kvs := []) (as := []) (bs := []) ho hx.1 hd (by rw [e]; exact .nil) (by rw [e]; exact .nil), fun hb => ?_⟩
  rw [← List.mem_singleton.mp hb] at ns
  simp at ns
theorem Da.dict0 {a : Addr} (h : H a = some (.dK [])) : Da H (.ref a) (.dict []) := (Dn.dict0 h).da
end

section
variable {X : Cx}
/-- repr(x), x any data -/
def rReprA : List V → Hp → VK → Prop := fun xs H Q => ∃ x d, xs = [x] ∧ Da H x d ∧ (d.hasDict = true → Dn H x d) ∧ d.showable = true ∧ d.depth ≤ 40 ∧ d.shown.length ≤ sizeLine ∧ Q (.str d.shown) H
theorem call_reprA {k : Nat} (rm : Room k X.A) (gd : X.A.guards = some []) : CallR X (.builtin "repr") rReprA := by
  intro pins s σ H xs us Q I r h
  obtain ⟨x, d, rfl, hd, hn, sh, dp, sz, q⟩ := h
  obtain ⟨u, rfl, r1⟩ := vals1 r
  have rdn : ∃ as, Reads s.heap u d as ∧ (d.hasDict = true → sysModules ∉ as) := by
    cases z : d.hasDict with
    | false =>
      obtain ⟨as, rd⟩ := hd X pins σ s u I r1
      exact ⟨as, rd, nofun⟩
    | true =>
      obtain ⟨as, rd, n⟩ := hn z X pins σ s u I r1
      exact ⟨as, rd, fun _ => n⟩
  obtain ⟨as, rd, ha⟩ := rdn
  have room := rm.units
  have fin : ∀ (s' : Shared) (tk : Tok), Inv X pins σ H s' → EP X pins σ Q (.str d.shown tk) s' := fun s' tk J => ⟨.str d.shown, H, J, ⟨tk, rfl⟩, q⟩
  have intsz : ∀ i : Int, d = .int i → i.natAbs.log2 < 1920 := fun i e => by
    subst e
    simpa [PyData.showable] using sh
  have big : ∀ {a : Addr}, u = .ref a → wpAny (model X.prog X.w) X.A (call (.builtin "repr") [u]) (EP X pins σ Q) X.xe s := fun {a} e => by
    subst e
    exact repr_of_reads' rd sh ha gd (by omega) (fun _ _ z => z) (fun h' u tk keep => fin _ _ (I.kept (t' := tk) keep)) sz
  cases rd with
  | none =>
    rw [PyData.shown_none] at q
    exact PySem.P.repr_of_none ⟨.str _, H, I.tok _, ⟨_, rfl⟩, q⟩
  | bool b =>
    rw [PyData.shown_bool] at q
    exact PySem.P.repr_of_bool ⟨.str _, H, I.tok _, ⟨_, rfl⟩, by cases b <;> exact q⟩
  | int i t =>
    rw [PyData.shown_int] at q
    exact PySem.P.repr_of_int (intsz i rfl) ⟨.str _, H, I.tok _, ⟨_, rfl⟩, q⟩
  | str z t =>
    rw [PyData.shown_str] at q sz
    exact PySem.P.repr_of_str ⟨.str _, H, I.tok _, ⟨_, rfl⟩, q⟩ sz
  | list h1 h2 h3 h4 => exact big rfl
  | tuple h1 h2 h3 h4 => exact big rfl
  | dict h1 h2 h3 h4 h5 => exact big rfl
/-- x not in t, t a tuple of texts of the written part, x any data -/
def rNotInA (K : PySem.W.Frag) : R2 := fun x y H Q => ∃ (p : Addr) (d : PyData) (zs : List Str), y = .ref p ∧ Da H x d ∧ d.canLay0 = true ∧ d.depth ≤ 40 ∧ KTup K p (zs.map V.str) ∧ zs.all PyData.strOk = true ∧ Q (.bl (!(zs.any fun z => PyData.eqv (.str z) d))) H
theorem strs_reads {h : Heap} : ∀ {zs : List Str} {us : List Value}, Vals (zs.map V.str) us → ReadsAll h us (zs.map PyData.str) []
  | [], _, .nil => .nil
  | z :: zs, _, .cons r t => by
    obtain ⟨k, rfl⟩ := r
    exact .cons (as := []) (bs := []) (.str z k) (strs_reads t)
theorem strs_lay : ∀ {zs : List Str}, zs.all PyData.strOk = true → PyData.canLayAll0 (zs.map PyData.str) = true
  | [], _ => by simp [PyData.canLayAll0]
  | z :: zs, h => by
    rw [List.all_cons, Bool.and_eq_true] at h
    simp [PyData.canLayAll0, PyData.canLay0, strs_lay h.2, h.1]
theorem op_notInA {k : Nat} (rm : Room k X.A) : OpR X (compareOp .NotIn) (rNotInA X.K) := by
  intro pins s σ H x y v u Q I rx ry h
  obtain ⟨p, d, zs, rfl, hd, lay, dp, ⟨o, its, n, lk, hc, hdt, _, rv⟩, zok, q⟩ := h
  obtain rfl : u = Value.ref p := ry
  obtain ⟨as, rd⟩ := hd X pins σ s v I rx
  have room := rm.units
  refine SeqAt.notIn_tuple_reads (.tuple (I.kIn _ _ lk) hc hdt (strs_reads rv)) rd (strs_lay zok) lay (Nat.lt_of_le_of_lt (Nat.add_le_add_left (Nat.min_le_right _ _) _) (by omega)) ⟨.bl _, H, I, rfl, ?_⟩
  rw [List.any_map]
  exact q
end
end KG

set_option Elab.async false
set_option linter.all false
set_option maxRecDepth 100000
set_option maxHeartbeats 1000000
/-! KV: list.count of flat items; what a caught error of a known class answers. -/
namespace KG
open PySem PySem.Spec PySem.Calls PyProof.Rows L2
section
variable {X : Cx}
def rCountF (K : PySem.W.Frag) : V → List V → Hp → VK → Prop := fun x xs H Q => ∃ (p : Addr) (ys : List V) (y : V), x = .ref p ∧ xs = [y] ∧ SqL K H p ys ∧ flatV y = true ∧ ys.all flatV = true ∧ Q (.int (ys.countP fun z => eqV z y : Nat)) H
theorem count_eqU {x : V} : ∀ {xs : List V} {us : List Value}, Vals xs us → xs.all flatV = true → us.countP (eqU x) = xs.countP fun y => eqV y x
  | _, _, .nil, _ => rfl
  | y :: xs, u :: us, .cons r t, f => by
    rw [List.all_cons, Bool.and_eq_true] at f
    rw [List.countP_cons, List.countP_cons, eqU_of r f.1, count_eqU t f.2]
theorem mt_countF : MtR X "list.count" (rCountF X.K) := by
  intro pins s σ H x xs v us Q I rx rxs h
  obtain ⟨p, ys, y, rfl, rfl, hs, fy, fys, q⟩ := h
  cases rx
  obtain ⟨u, rfl, ru⟩ := vals1 rxs
  obtain ⟨its, rv, ⟨⟨cls, dd, data, sl⟩, n, ho, hc, hdn, hd⟩, hlen⟩ := I.list hs
  simp only at hc hd
  subst hc hd
  refine call_meets PySem.F.slot_list_count ⟨_, ho, rfl⟩ PySem.F.entry_list_count (PySem.F.args_list_count_2 _ _)
    (SeqAt.list_countAt p its.toArray n dd sl u (eqU y)) ⟨ho, fun u' hu' => mem_eqAt ru fy rv fys u' (by simpa using hu'), ?_⟩
  refine ⟨.int (ys.countP fun z => eqV z y : Nat), H, I.tok _, ⟨s.toks, ?_⟩, q⟩
  show Value.int ((its.toArray.toList.countP (eqU y) : Nat) : Int) s.toks = _
  rw [show its.toArray.toList = its from rfl, count_eqU rv fys]
end
/-- a list display, its place beside the table of modules -/
def NewB (Q : VK) (xs : List V) (H : Hp) : Prop := xs.length ≤ sizeLine ∧ ∀ p, H p = none → p ≠ sysModules → Q (.ref p) (upd H p (.lst xs))
def tLstB (t : TA) : TE := fun σ H Q => t σ H fun xs H1 => NewB Q xs H1
theorem pe_lstB {X : Cx} {es : List Expr} {t : TA} {pos : Pos} (h : PA X es t) : PE X (.List es pos) (tLstB t) := by
  refine ⟨fun pins s σ H Q I hq => wpAny_List_spliced (thn (h.run pos pins s σ H _ I hq) fun us s1 ⟨xs, H1, I1, r, z, q⟩ => ⟨by rw [← r.length]; exact z, ?_⟩)⟩
  exact ⟨.ref s1.heap.objs.size, _, I1.laid (t' := s1.toks) (o := .lst xs) (fun b u e => Heap.get?_push_of_some _ e) (Nat.le_refl _) ⟨z, us, 0, r, Heap.get?_push_size _ rfl⟩, rfl, q _ (I1.hok.fresh (Nat.le_refl _)) (Nat.ne_of_gt I1.big)⟩
theorem w_lstB {σ : L2.St} {H : Hp} {Q : VK} {t : TA} (q : t σ H fun xs H1 => NewB Q xs H1) : tLstB t σ H Q := q
theorem newB {xs : List V} {H : Hp} {Q : VK} (l : xs.length ≤ sizeLine) (q : ∀ (p : Addr) (H' : Hp), H p = none → p ≠ sysModules → H' p = some (.lst xs) → Same H H' → Q (.ref p) H') : NewB Q xs H :=
  ⟨l, fun p np ns => q p _ np ns upd_same fun b u e => by rw [upd_ne (ne_of_none e np)]; exact e⟩
/-! ### steps -/
section
variable {σ : L2.St} {H : Hp} {Q : VK} {K : PySem.W.Frag}
/-- isinstance of a known error, its class and dict in the heap H -/
theorem w_isE {a D dd : Addr} {fs : List (Str × V)} {c : V} {cv : Value} {b : Bool} (ha : H a = some (ErrO (.ref D) (some dd) a)) (hd : H dd = some (.xd fs)) (C : ExcC K D) (hc : ∀ u, RelV c u → u = cv) (e : PySem.W.kitOne K (.ref D) cv = some b) (q : Q (.bl b) H) : rIsErr K [.ref a, c] H Q :=
  ⟨a, D, dd, fs, c, cv, b, rfl, ha, hd, C, hc, e, q⟩
theorem w_cat {l b : Addr} {xs zs ys : List V} (h1 : H l = some (.lst xs)) (h2 : H b = some (.lst zs)) (e : xs ++ zs = ys) (z : ys.length ≤ sizeLine) (q : ∀ (p : Addr) (H' : Hp), H p = none → H' p = some (.lst ys) → Same H H' → Q (.ref p) H') : rCat (.ref l) (.ref b) H Q :=
  ⟨l, b, xs, zs, rfl, rfl, h1, h2, by rw [← List.length_append, e]; exact z, fun p np => q p _ np (by rw [e]; exact upd_same) fun b u e => by rw [upd_ne (ne_of_none e np)]; exact e⟩
theorem w_bm {T : String} {r : V → List V → Hp → VK → Prop} {to : TE} {t : TA} (q : to σ H fun x H1 => tyV K T x H1 ∧ t σ H1 fun xs H2 => r x xs H2 Q) : tBM K T r to t σ H Q := q
theorem ty_list {p : Addr} {xs : List V} (h : H p = some (.lst xs)) : tyV K "list" (.ref p) H := .inl ⟨rfl, xs, SqL.of h⟩
theorem w_app {p : Addr} {xs ys : List V} {y : V} (h : H p = some (.lst xs)) (z : xs.length < sizeLine) (e : xs ++ [y] = ys) (q : ∀ H' : Hp, H' p = some (.lst ys) → (∀ b, b ≠ p → H' b = H b) → Q .non H') : rAppend (.ref p) [y] H Q :=
  ⟨p, xs, y, rfl, rfl, h, z, q _ (by rw [e]; exact upd_same) fun b nb => upd_ne nb⟩
theorem w_count {p : Addr} {ys : List V} {y : V} {n : Nat} (h : H p = some (.lst ys)) (f : flatV y = true) (fs : ys.all flatV = true) (e : (ys.countP fun z => eqV z y) = n) (q : Q (.int (n : Nat)) H) : rCountF K (.ref p) [y] H Q :=
  ⟨p, ys, y, rfl, rfl, SqL.of h, f, fs, by rw [e]; exact q⟩
theorem w_errf {te : TE} {f : Str} (q : te σ H fun x H1 => ∃ (a C dd : Addr) (fs : List (Str × V)) (v : V), x = .ref a ∧ H1 a = some (ErrO (.ref C) (some dd) a) ∧ H1 dd = some (.xd fs) ∧ XfC K C ∧ PySem.W.findIn K (.ref C) f = some none ∧ fs.lookup f = some v ∧ Q v H1) : tErrF K te f σ H Q := q
end
end KG

set_option Elab.async false
set_option linter.all false
set_option maxRecDepth 100000
set_option maxHeartbeats 1000000
/-! KW: methods that may raise; own errors by their def. -/
namespace KG
open PySem PySem.Spec PySem.Calls PyProof.Rows L2
section
variable {P : Program} {w : World} {K : PySem.W.Frag} {mg : Str → Option Value} {base : Heap} {k : Nat} {x m qual : Str} {st : Stmt} {ps N : List Str} {sp : Sp} {C f : Addr}
theorem MetAt.gdx (D : MetAt K C m qual st ps f) (sc : FnScope N ps (defScope st)) (len : ∀ vs H Q E, sp vs H Q E → vs.length = ps.length)
    (inner : ∀ (cdv : Value) (A : Around) (outer : List Env) (s : Shared) (H : Hp) (vs : List V) (Q : VK) (E : XK),
      Room k (A.deeper (envOfC qual (defScope st) s.heap.objs.size f cdv)) → (A.deeper (envOfC qual (defScope st) s.heap.objs.size f cdv)).guards = some [] → sp vs H Q E →
      ∃ t, PSs (cxOf (L2.CX P w) P w K mg base N qual (defScope st) f cdv A outer s H E) (defBody st) t ∧ t { nx := fun _ H' => Q .non H', rt := Q } (start N vs) H) :
    ∃ fd, Meth K C m f ∧ Fun K m qual st f fd ∧ Binds K fd ps [] ∧ Gd P w K mg base (L2.CX P w) (k + 1) f fd ps sp := by
  obtain ⟨fd, a, F, b⟩ := D.ex
  exact ⟨fd, a, F, b, gdX F sc len inner⟩
end
/-- what a def that may raise lets out -/
theorem takes_cx {P : Program} {w : World} {K : PySem.W.Frag} {mg : Str → Option Value} {base : Heap} {N : List Str} {qual : Str} {sc : Scope} {f : Addr} {cd : Value} {A : Around} {outer : List Env} {s : Shared} {H : Hp} {E : XK} :
    Takes (cxOf (L2.CX P w) P w K mg base N qual sc f cd A outer s H E) (fun cls d _ H => E cls d H) := takes_of rfl rfl rfl rfl
theorem own_cx {P : Program} {w : World} {K : PySem.W.Frag} {mg : Str → Option Value} {base : Heap} {N : List Str} {qual : Str} {sc : Scope} {f : Addr} {cd : Value} {A : Around} {outer : List Env} {s : Shared} {H : Hp} {E : XK} :
    PassesOwn (model P w) (cxOf (L2.CX P w) P w K mg base N qual sc f cd A outer s H E).A (cxOf (L2.CX P w) P w K mg base N qual sc f cd A outer s H E).env (cxOf (L2.CX P w) P w K mg base N qual sc f cd A outer s H E).xe := passes_of rfl
/-- .. the lambda's frame -/
theorem takes_lam {X : Cx} {A : Around} {outer : List Env} {s : Shared} {H : Hp} {E : XK} {scope : Scope} {f c' : Addr} : Takes (LamX.lamCx X A outer s H E scope f c') (fun cls d _ H => E cls d H) := takes_of rfl rfl rfl rfl
theorem pass_lam {X : Cx} {A : Around} {outer : List Env} {s : Shared} {H : Hp} {E : XK} {scope : Scope} {f c' : Addr} : Passes (L2.CX X.prog X.w) (LamX.lamCx X A outer s H E scope f c') E := passes_call takes_lam fun _ _ _ _ h => h
theorem pass_cx {P : Program} {w : World} {K : PySem.W.Frag} {mg : Str → Option Value} {base : Heap} {N : List Str} {qual : Str} {sc : Scope} {f : Addr} {cd : Value} {A : Around} {outer : List Env} {s : Shared} {H : Hp} {E : XK} :
    Passes (L2.CX P w) (cxOf (L2.CX P w) P w K mg base N qual sc f cd A outer s H E) E := passes_call takes_cx fun _ _ _ _ h => h
/-- the def st is an error's __init__ of two lines -/
def ErrX (st : Stmt) (qual pv fld : Str) : Prop := ∃ (msg : Str) (j : Nat) (p0 p1 p2 p3 p4 p5 p6 p7 p8 p9 : Pos), defBody st = errBody msg pv fld j p0 p1 p2 p3 p4 p5 p6 p7 p8 p9 ∧ ErrT qual pv fld msg (defArgs st) (defScope st) j p0 p1 p2 p3 p4 p5 p6 p7 p8 p9
theorem pmk_errX {X : Cx} {k : Nat} {C fI : Addr} {x qual pv fld : Str} {st : Stmt} {p pos : Pos} {e : Expr} {es : List Expr} {ta : TA} (T : ErrC X.prog X.K C fI qual pv fld (defArgs st) (defBody st) (defScope st)) (TT : ErrX st qual pv fld)
    (hr : Room (k + 1) X.A) (hg : Gl X x) (hm : X.mg x = some (.ref C)) (ha : PA X (e :: es) ta)
    (hdb : (x == ("__debug__" : Str)) = false := by decide) (hs : starEach (e :: es) X.env = (false, eval e X.env) :: starEach es X.env := by rfl) (hpl : (backTo pos (starEach es X.env)).any (·.1) = false := by rfl) :
    PMk X (.Call (.Name x p) (e :: es) [] pos) (tErr C fld ta) := by
  obtain ⟨msg, j, p0, p1, p2, p3, p4, p5, p6, p7, p8, p9, hb, TT⟩ := TT
  rw [hb] at T
  exact pmk_err T TT hr hg hm ha hdb hs hpl
end KG

set_option Elab.async false
set_option linter.all false
set_option maxRecDepth 100000
set_option maxHeartbeats 1000000
/-! KZ: a text beside a dict; not in a tuple of texts. -/
namespace KG
open PySem PySem.Spec PySem.Calls PyProof.Rows L2 SeqAt
theorem sub_str_dict : isSubtype (.type "str") (.type "dict") = pure false := by rw [isSubtype_type]; kernel_rfl
theorem sub_dict_str : isSubtype (.type "dict") (.type "str") = pure false := by rw [isSubtype_type]; kernel_rfl
theorem dict_declines (l : Addr) (es : Array DictEntry) (n : Nat) (dd : Option Addr) (sl : Array (Option Value)) (b : Str) (u : Tok) :
    Meets (Builtin.«dict.__eq__» ⟨[.ref l, .str b u], []⟩) (fun _ R s => s.heap.get? l = some { cls := .type "dict", dict := dd, data := .dict es n, slots := sl } ∧ R (.ok (.ret .notImplemented)) s) :=
  .of_wp fun prog w A R s h => by
    obtain ⟨hp, g, d, tk, os⟩ := s
    obtain ⟨hl, h⟩ := h
    have f1 := sub_str_dict
    wp_walk using wpAny_loadPart' hl
    exact ⟨_, rfl, h⟩
theorem str_declines (b : Str) (u : Tok) (l : Addr) (es : Array DictEntry) (n : Nat) (dd : Option Addr) (sl : Array (Option Value)) :
    Meets (Builtin.«str.__eq__» ⟨[.str b u, .ref l], []⟩) (fun _ R s => s.heap.get? l = some { cls := .type "dict", dict := dd, data := .dict es n, slots := sl } ∧ R (.ok (.ret .notImplemented)) s) :=
  .of_wp fun prog w A R s h => by
    obtain ⟨hp, g, d, tk, os⟩ := s
    obtain ⟨hl, h⟩ := h
    have f1 := sub_dict_str
    wp_walk using wpAny_loadPart' hl
    exact ⟨_, rfl, h⟩
theorem eqAt_str_dict {A : Around} {s : Shared} {l : Addr} {es : Array DictEntry} {n : Nat} {dd : Option Addr} {sl : Array (Option Value)} (b : Str) (u : Tok) (ho : s.heap.get? l = some { cls := .type "dict", dict := dd, data := .dict es n, slots := sl }) (hu : A.units < cLine) : EqAt A s (.str b u) (.ref l) false := fun prog w E Q h => by
  unfold eqBool
  refine wpAny_holding ?_
  refine wpAny_ite_split (fun hab => absurd (eq_of_beq hab) nofun) (fun _ => ?_)
  refine wpAny_bind (rc_eq_decline_or (k := false) (typeIs_str s b u) ⟨_, ho, rfl⟩ (by decide) sub_dict_str F.slot_str_eq F.slot_dict_eq_refl
    (fun _ hq => call_meets F.slot_str_eq (typeIs_str s b u) F.entry_str_eq (F.args_str_eq_2 _ _) (str_declines b u l es n dd sl) ⟨ho, hq⟩)
    (fun _ hq => call_meets F.slot_dict_eq_refl ⟨_, ho, rfl⟩ F.entry_dict_eq (F.args_dict_eq_2 _ _) (dict_declines l es n dd sl b u) ⟨ho, hq⟩)
    (fun _ hq => wpAny_of_eq (rfl : isSame (.str b u) (.ref l) = pure false) hq) (.inr hu) (wpAny_truthy_bool h))
section
variable {X : Cx}
/-- x not in t, t a tuple of texts of the written part, x any data, {} too -/
def rNotInB (K : PySem.W.Frag) : R2 := fun x y H Q => ∃ (p : Addr) (d : PyData) (zs : List Str), y = .ref p ∧ Da H x d ∧ (d.canLay0 = true ∨ d = .dict []) ∧ d.depth ≤ 40 ∧ KTup K p (zs.map V.str) ∧ zs.all PyData.strOk = true ∧ Q (.bl (!(zs.any fun z => PyData.eqv (.str z) d))) H
theorem strs_mem : ∀ {zs : List Str} {us : List Value}, Vals (zs.map V.str) us → ∀ u ∈ us, ∃ z t, u = Value.str z t
  | [], _, .nil => fun u h => nomatch h
  | z :: zs, _, .cons r t => fun u h => by
    rcases List.mem_cons.mp h with e | e
    · obtain ⟨k, rfl⟩ := r
      exact ⟨z, k, e⟩
    · exact strs_mem t u e
theorem op_notInB {k : Nat} (rm : Room k X.A) : OpR X (compareOp .NotIn) (rNotInB X.K) := by
  intro pins s σ H x y v u Q I rx ry h
  obtain ⟨p, d, zs, rfl, hd, lay, dp, kt, zok, q⟩ := h
  rcases lay with lay | rfl
  · exact op_notInA rm pins s σ H x _ v u Q I rx ry ⟨p, d, zs, rfl, hd, lay, dp, kt, zok, q⟩
  · obtain ⟨o, its, n, lk, hc, hdt, _, rv⟩ := kt
    obtain rfl : u = Value.ref p := ry
    obtain ⟨as, rd⟩ := hd X pins σ s v I rx
    have room := rm.units
    cases rd with
    | @dict a oo es nn kvs as bs h1 h2 h3 h4 h5 =>
      obtain ⟨oc, od, odt, osl⟩ := oo
      dsimp only at h2 h3
      subst h2 h3
      refine SeqAt.notIn_tupleAt (fun _ => false) ⟨_, I.kIn _ _ lk, hc, _, hdt⟩ (fun y hy => ?_) ⟨.bl _, H, I, rfl, ?_⟩
      · obtain ⟨z, t, rfl⟩ := strs_mem rv y (by simpa using hy)
        exact eqAt_str_dict z t h1 (by show X.A.units + 1 < cLine; omega)
      · have e1 : (its.any fun _ => false) = false := by
          rw [← Array.any_toList]
          exact List.any_eq_false.mpr fun _ _ => Bool.false_ne_true
        have e2 : (zs.any fun z => PyData.eqv (.str z) (.dict [])) = false := List.any_eq_false.mpr fun z _ => by simp [PyData.eqv]
        rw [e2] at q
        rw [e1]
        exact q
end
end KG

set_option Elab.async false
set_option linter.all false
set_option maxRecDepth 100000
set_option maxHeartbeats 1000000
/-! KO: operators of own objects beside whole numbers, calls of own objects, calls by keywords alone, defaults of methods, written dicts with whole numbers as keys. -/
namespace KG
open PySem PySem.Spec PySem.Calls PyProof.Rows L2
section
variable {X : Cx} {CX : CXT} {k : Nat} {f C : Addr} {fd : FuncData} {ps ks : List Str} {sp : Sp} {E : XK} {x : Str} {p pos : Pos} {e : Expr} {es : List Expr} {kws : List Keyword} {ta t tk : TA}
/-- o op i, o an own object, i a whole number -/
def rOwnI (C : Addr) (sp : Sp) (E : XK) : R2 := fun x y H Q => ∃ (a dx : Addr) (fs : List (Str × V)) (i : Int), x = .ref a ∧ H a = some (.ins C dx fs) ∧ y = .int i ∧ sp [.ref a, .int i] H Q E
/-- what the class has for an operator -/
structure OpAt (K : PySem.W.Frag) (C f : Addr) (op : Operator) : Prop where
  first : PySem.W.selfFirst K C = true
  own : PySem.W.findIn K (.ref C) (PySem.dunder op.info.2) = some (some (.ref f))
  fn : PySem.W.isFn K (.ref f) = true
  refl : ∃ rc, PySem.W.findIn K (.ref C) (dunderR op.info.2) = some rc ∧ (rc = none ∨ ∃ g : Addr, rc = some (.ref g))
  int1 : ∃ fo, PySem.W.findIn K (.type "int") (PySem.dunder op.info.2) = some fo
  int2 : ∃ ro, PySem.W.findIn K (.type "int") (dunderR op.info.2) = some ro
  sub : PySem.W.subIn K (.type "int") (.ref C) = some false
theorem op_ownI {op : Operator} (O : OpAt X.K C f op) (F : Gd X.prog X.w X.K X.mg X.base CX k f fd ps sp) (rm : Room k X.A) (gd : X.A.guards = some []) (hb : Binds X.K fd ps []) (hx : Passes CX X E) : OpR X (binaryOp op) (rOwnI C sp E) := by
  intro pins s σ H x y v u Q I rx ry h
  obtain ⟨a, dx, fs, i, rfl, ea, rfl, q⟩ := h
  obtain rfl : v = Value.ref a := rx
  obtain ⟨t, rfl⟩ := ry
  obtain ⟨mA, J, _⟩ := ins_get I.hok ea
  obtain ⟨od, J, _⟩ := J.look
  obtain ⟨m, fr⟩ := I.fr
  obtain ⟨rc, hr, hp⟩ := O.refl
  obtain ⟨fo, h1⟩ := O.int1
  obtain ⟨ro, h2⟩ := O.int2
  have r2 : Vals [V.ref a, .int i] [Value.ref a, .int i t] := .cons rfl (.cons ⟨t, rfl⟩ .nil)
  have bt := bind_pos (dvs := []) (vs := [V.ref a, .int i]) F hb .nil I.kIn r2 q
  refine PySem.W.ksp_binT fr I.ok.mod.kin J rfl O.first O.own O.fn hr hp h1 h2 O.sub ?_
  refine wpAny_mono (run_g (us := [.ref a, .int i t]) F rm gd hx I bt r2 q) (fun v s' hv => ?_) fun _ _ z => z
  have rv : ∃ z, RelV z v := let ⟨z, _, _, rz, _⟩ := hv; ⟨z, rz⟩
  exact rv.elim fun z rz => SlX.cmpback rz hv
theorem w_own {a dx : Addr} {fs : List (Str × V)} {i : Int} {H : Hp} {Q : VK} (h : H a = some (.ins C dx fs)) (q : sp [.ref a, .int i] H Q E) : rOwnI C sp E (.ref a) (.int i) H Q := ⟨a, dx, fs, i, rfl, h, rfl, q⟩
/-! ### o(e, ..), o an own object that a name holds -/
def tOwnC (C : Addr) (sp : Sp) (E : XK) (n : Nat) (ta : TA) : TE := fun σ H Q => ∃ a : Addr, σ[n]? = some (some (.ref a)) ∧ ta σ H fun vs H1 => ∃ dx fs, H1 a = some (.ins C dx fs) ∧ sp (.ref a :: vs) H1 Q E
theorem own_with {M : Model} {A : Around} {W : Value → Shared → Prop} {s : Shared} {x C : Addr} {K : PySem.W.Frag} {args : List (Bool × Sem Value)} {Q : Value → Shared → Prop} (plain : (args.any (·.1) || ([] : List (Option Str × Sem Value)).any (·.1.isNone)) = false)
    (h : wpAny M A (evalArgs (.ref x) true args []) (fun a s1 => (∃ ox od, PySem.W.InstAt s1.heap x ox C od ∧ ox.data = .plain) ∧ wpAny M A (call (.ref x) a.pos a.kw) Q W s1) W s) : wpAny M A (callWith pos (.ref x) [] args []) Q W s := by
  unfold callWith
  refine wpAny_bind (wpAny_holding (wpAny_mono h (fun a s1 ⟨⟨ox, od, J, hd⟩, g⟩ => wpAny_bind (wpAny_standAt ?_)) fun _ _ z => z))
  simp only [plain]
  refine wpAny_bind ((PySem.W.kco_keeper (M := M) J hd).here ?_)
  have behind : ∀ {t : Sem Value}, wpAny M A t Q W s1 → wpAny M A (t >>= fun r => holding [r] point >>= fun _ => pure r) Q W s1 := fun ht =>
    wpAny_bind (wpAny_mono ht (fun r s2 hr => wpAny_bind (wpAny_holding (wpAny_point (wpAny_pure hr)))) fun _ _ z => z)
  exact behind (wpAny_operateT g)
theorem pe_ownC {n : Nat} (O : PySem.W.findIn X.K (.ref C) "__call__" = some (some (.ref f))) (fn : PySem.W.isFn X.K (.ref f) = true) (fi : PySem.W.fnIn X.K f = true) (F : Gd X.prog X.w X.K X.mg X.base CX k f fd ps sp) (rm : Room k X.A) (gd : X.A.guards = some []) (hb : Binds X.K fd ps []) (hx : Passes CX X E)
    (hv : PE X (.Name x p) (tVar n)) (ha : PA X (e :: es) ta) (he : starEach (e :: es) X.env = (false, eval e X.env) :: starEach es X.env := by rfl) (hpl : (backTo pos (starEach es X.env)).any (·.1) = false := by rfl) :
    PE X (.Call (.Name x p) (e :: es) [] pos) (tOwnC C sp E n ta) := by
  refine ⟨fun pins s σ H Q I h => ?_⟩
  obtain ⟨a, ea, q⟩ := h
  refine wpAny_Call_Name_kw (wpAny_mono (hv.run pins s σ H (fun v H' => v = .ref a ∧ ta σ H' fun vs H1 => ∃ dx fs, H1 a = some (.ins C dx fs) ∧ sp (.ref a :: vs) H1 Q E) I ⟨_, ea, rfl, q⟩) (fun u s1 hu => ?_) fun _ _ z => z)
  obtain ⟨v, H1, I1, rv, ev, q1⟩ := hu
  subst ev
  obtain rfl : u = Value.ref a := rv
  show wpAny _ _ (callWith pos (.ref a) [] (backTo pos (starEach (e :: es) X.env)) []) _ _ _
  rw [he]
  refine own_with (K := X.K) (C := C) (by show ((false || (backTo pos (starEach es X.env)).any (·.1)) || false) = false; rw [hpl]; rfl) (evalArgs_plain ?_)
  have args := ha.run pos pins s1 σ H1 _ I1 q1
  rw [he] at args
  refine wpAny_mono args (fun us s2 hs => ?_) fun _ _ z => z
  obtain ⟨vs, H2, J, r, dx, fs, ea2, q2⟩ := hs
  obtain ⟨mA, Z, _⟩ := ins_get J.hok ea2
  obtain ⟨od, Z, zd⟩ := Z.look
  refine ⟨⟨_, od, Z, by first | exact zd | rfl⟩, wpAny_call (PySem.W.kco_code J.kIn Z (by first | exact zd | rfl) O fn fi ?_)⟩
  have r1 : Vals (V.ref a :: vs) (Value.ref a :: us) := .cons rfl r
  refine codeAny_mono (F.go X.A X.stack s2 H2 ⟨.ref a :: us, []⟩ _ _ _ E rm gd J.env0 (bind_pos (dvs := []) F hb .nil J.kIn r1 (by rw [List.append_nil]; exact q2)) (by rw [List.append_nil]; exact r1) q2) fun out s' hq => ?_
  match out, hq with
  | .error e, hq => exact hx pins σ H2 s2 e s' J hq
  | .ok (.ret u), hq => exact J.after hq
/-! ### f(k = v, ..) -/
def tCallK (j : Nat) (sp : Sp) (gV : List V → List V) (E : XK) (tk : TA) : TE := fun σ H Q => tk σ H fun zs H2 => zs.length = j ∧ sp (gV zs) H2 Q E
theorem pe_gcallK {g : List Value → List Value → List Value} {gV : List V → List V → List V} (F : Gd X.prog X.w X.K X.mg X.base CX k f fd ps sp) (rm : Room k X.A) (gd : X.A.guards = some []) (gl : Gl X x) (at_ : X.mg x = some (.ref f)) (kp : PySem.W.keepIn X.K (.ref f) = true)
    (hb : KBn X.K fd ps 0 ks g gV) (hx : Passes CX X E) (hkw : PK X kws tk) (hall : (backToKw pos (keywordEach kws X.env)).all (·.1.isSome) = true := by rfl) (hks : (backToKw pos (keywordEach kws X.env)).filterMap (·.1) = ks := by rfl)
    (hdb : (x == ("__debug__" : Str)) = false := by decide) (hpl : ((backTo pos (starEach [] X.env)).any (·.1) || (backToKw pos (keywordEach kws X.env)).any (·.1.isNone)) = false := by rfl) :
    PE X (.Call (.Name x p) [] kws pos) (tCallK ks.length sp (gV []) E tk) := by
  refine ⟨fun pins s σ H Q I h => wpAny_Call_Name_kw (ld_glob I gl at_ (PySem.W.callWith_KW0 (first := []) (h₀ := X.base) I.ok.mod.kin kp hall (thn (hkw.run pos pins s σ H _ I h) fun ws s2 ⟨zs, H2, J, rz, lz, q2⟩ => ⟨J.kIn, ?_⟩) hpl) hdb)⟩
  rw [hks]
  exact run_g (us := []) F rm gd hx J (hb.to s2 [] ws J.kIn rfl (rz.length.symm.trans lz)) (hb.rel .nil rz) q2
theorem w_callK {σ : L2.St} {H : Hp} {Q : VK} {j : Nat} {gV : List V → List V} (q : tk σ H fun zs H2 => zs.length = j ∧ sp (gV zs) H2 Q E) : tCallK j sp gV E tk σ H Q := q
end
/-! ### defaults of a method -/
section
variable {P : Program} {w : World} {K : PySem.W.Frag} {mg : Str → Option Value} {base : Heap} {k : Nat} {x qual : Str} {st : Stmt} {ps N : List Str} {sp : Sp} {f : Addr} {fd : FuncData} {dvs : List V} {kws : List (Str × V)}
theorem gdD (F : FunD K x qual (defArgs st) (defBody st) (defScope st) dvs kws f fd) (sc : FnScope N ps (defScope st)) (len : ∀ vs H Q E, sp vs H Q E → vs.length = ps.length)
    (inner : ∀ (cdv : Value) (A : Around) (outer : List Env) (s : Shared) (H : Hp) (vs : List V) (Q : VK) (E : XK),
      Room k (A.deeper (envOfC qual (defScope st) s.heap.objs.size f cdv)) → (A.deeper (envOfC qual (defScope st) s.heap.objs.size f cdv)).guards = some [] → sp vs H Q E →
      ∃ t, PSs (cxOf (L2.CX P w) P w K mg base N qual (defScope st) f cdv A outer s H E) (defBody st) t ∧ t { nx := fun _ H' => Q .non H', rt := Q } (start N vs) H) :
    Gd P w K mg base (L2.CX P w) (k + 1) f fd ps sp := by
  obtain ⟨oc, od, dV, kV, doc, pm, an, cdv, ct, osl, rfl, found, code, _, _⟩ := F.ex
  exact gd_of found code sc len fun A outer s H vs Q E rm gd q => inner cdv A outer s H vs Q E rm gd q
/-- a def of the text that may raise -/
theorem gdF {x : Str} (F : Fun K x qual st f fd) (sc : FnScope N ps (defScope st)) (len : ∀ vs H Q E, sp vs H Q E → vs.length = ps.length)
    (inner : ∀ (cdv : Value) (A : Around) (outer : List Env) (s : Shared) (H : Hp) (vs : List V) (Q : VK) (E : XK),
      Room k (A.deeper (envOfC qual (defScope st) s.heap.objs.size f cdv)) → (A.deeper (envOfC qual (defScope st) s.heap.objs.size f cdv)).guards = some [] → sp vs H Q E →
      ∃ t, PSs (cxOf (L2.CX P w) P w K mg base N qual (defScope st) f cdv A outer s H E) (defBody st) t ∧ t { nx := fun _ H' => Q .non H', rt := Q } (start N vs) H) :
    Gd P w K mg base (L2.CX P w) (k + 1) f fd ps sp := gdX F sc len inner
end
/-- the def x, promised sp, which may raise -/
def CalX (P : Program) (w : World) (K : PySem.W.Frag) (mg : Str → Option Value) (base : Heap) (j : Nat) (x : Str) (ps : List Str) (sp : Sp) : Prop :=
  ∃ f fd, mg x = some (.ref f) ∧ PySem.W.keepIn K (.ref f) = true ∧ Binds K fd ps [] ∧ (∃ (oc : Value) (od : Option Addr) (osl : Array (Option Value)), K.lookup f = some ⟨oc, od, .func fd, osl⟩) ∧ Gd P w K mg base (L2.CX P w) j f fd ps sp
/-- .. called by keywords alone -/
def CalK (P : Program) (w : World) (K : PySem.W.Frag) (mg : Str → Option Value) (base : Heap) (j : Nat) (x : Str) (ks : List Str) (is : List Nat) (sp : Sp) : Prop :=
  ∃ f fd ps, mg x = some (.ref f) ∧ PySem.W.keepIn K (.ref f) = true ∧ KBn K fd ps 0 ks (fun us ws => us ++ sel is ws) (fun vs zs => vs ++ sel is zs) ∧ Gd P w K mg base (L2.CX P w) j f fd ps sp
section
variable {P : Program} {w : World} {K : PySem.W.Frag} {mg : Str → Option Value} {base : Heap} {k j : Nat} {x : Str} {st : Stmt} {ps N ks : List Str} {is : List Nat} {sp : Sp}
theorem DefAt.calX (D : DefAt K mg x st ps) (sc : FnScope N ps (defScope st)) (len : ∀ vs H Q E, sp vs H Q E → vs.length = ps.length)
    (inner : ∀ (f : Addr) (cdv : Value) (A : Around) (outer : List Env) (s : Shared) (H : Hp) (vs : List V) (Q : VK) (E : XK),
      Room k (A.deeper (envOfC x (defScope st) s.heap.objs.size f cdv)) → (A.deeper (envOfC x (defScope st) s.heap.objs.size f cdv)).guards = some [] → sp vs H Q E →
      ∃ t, PSs (cxOf (L2.CX P w) P w K mg base N x (defScope st) f cdv A outer s H E) (defBody st) t ∧ t { nx := fun _ H' => Q .non H', rt := Q } (start N vs) H) :
    CalX P w K mg base (k + 1) x ps sp := by
  obtain ⟨f, fd, a, F, b⟩ := D.ex
  have G : Gd P w K mg base (L2.CX P w) (k + 1) f fd ps sp := gdX F sc len (inner f)
  obtain ⟨oc, od, kV, doc, pm, an, cdv, ct, osl, e, found, code⟩ := F.ex
  exact ⟨f, fd, a, F.kp, b, ⟨oc, od, osl, by rw [found, e]⟩, G⟩
theorem CalX.kw (c : CalX P w K mg base j x ps sp) (D : DefAt K mg x st ps) (h : BindOkK x x st ps 0 ks is) : CalK P w K mg base j x ks is sp := by
  obtain ⟨f, fd, a, kp, b, ⟨oc, od, osl, l⟩, G⟩ := c
  obtain ⟨f', fd', a', F, _⟩ := D.ex
  rw [a] at a'
  cases a'
  have e : fd' = fd := by
    obtain ⟨_, _, _, _, _, _, _, _, _, _, found, _⟩ := F.ex
    rw [l] at found
    cases found
    rfl
  rw [e] at F
  exact ⟨f, fd, ps, a, kp, kbn_of F 0 ks is h, G⟩
end
section
variable {X : Cx} {j k : Nat} {x : Str} {ps ks : List Str} {is : List Nat} {sp : Sp} {p pos : Pos} {e : Expr} {es : List Expr} {kws : List Keyword} {t tk : TA} {E : XK}
theorem pcX (c : CalX X.prog X.w X.K X.mg X.base j x ps sp) (hx : Passes (L2.CX X.prog X.w) X E) (rm : Room k X.A) (hk : j ≤ k) (gd : X.A.guards = some []) (gl : Gl X x) (ha : PA X (e :: es) t)
    (hdb : (x == ("__debug__" : Str)) = false := by decide) (he : starEach (e :: es) X.env = (false, eval e X.env) :: starEach es X.env := by rfl) (hpl : (backTo pos (starEach es X.env)).any (·.1) = false := by rfl) :
    PE X (.Call (.Name x p) (e :: es) [] pos) (tCall sp [] E t) := by
  obtain ⟨f, fd, a, kp, b, _, F⟩ := c
  exact pe_gcall F (rm.mono hk) gd gl a kp b .nil hx ha hdb he hpl
theorem pcK (c : CalK X.prog X.w X.K X.mg X.base j x ks is sp) (hx : Passes (L2.CX X.prog X.w) X E) (rm : Room k X.A) (hk : j ≤ k) (gd : X.A.guards = some []) (gl : Gl X x) (hkw : PK X kws tk)
    (hall : (backToKw pos (keywordEach kws X.env)).all (·.1.isSome) = true := by rfl) (hks : (backToKw pos (keywordEach kws X.env)).filterMap (·.1) = ks := by rfl)
    (hdb : (x == ("__debug__" : Str)) = false := by decide) (hpl : ((backTo pos (starEach [] X.env)).any (·.1) || (backToKw pos (keywordEach kws X.env)).any (·.1.isNone)) = false := by rfl) :
    PE X (.Call (.Name x p) [] kws pos) (tCallK ks.length sp (fun zs => [] ++ sel is zs) E tk) := by
  obtain ⟨f, fd, ps, a, kp, b, F⟩ := c
  exact pe_gcallK F (rm.mono hk) gd gl a kp b hx hkw hall hks hdb hpl
end
/-! ### a written dict with whole numbers as keys -/
inductive KEnts : List DictEntry → List (Int × V) → Prop
  | nil : KEnts [] []
  | cons {e : DictEntry} {i : Int} {v : V} {es : List DictEntry} {kvs : List (Int × V)} : (∃ t, e.key = .int i t) → e.hash = hashInt i → RelV v e.val → KEnts es kvs → KEnts (e :: es) ((i, v) :: kvs)
def KID (K : PySem.W.Frag) (p : Addr) (kvs : List (Int × V)) : Prop := (p == sysModules) = false ∧ ∃ (es : List DictEntry) (n : Nat), K.lookup p = some ⟨.type "dict", none, .dict es.toArray n, #[]⟩ ∧
  KEnts es kvs
theorem kid_find {es : List DictEntry} {kvs : List (Int × V)} (h : KEnts es kvs) (i : Int) :
    (kvs.lookup i = none ∧ findBy Value.isInt es.toArray i = none) ∨ ∃ v u, kvs.lookup i = some v ∧ findBy Value.isInt es.toArray i = some u ∧ RelV v u := by
  unfold findBy
  rw [List.find?_toArray]
  induction h with
  | nil => exact .inl ⟨rfl, rfl⟩
  | @cons e j v es kvs hk _ rv t ih =>
    obtain ⟨tk, ek⟩ := hk
    have e1 : Value.isInt i e.key = decide (j = i) := by
      rw [ek]
      show (j == i) = decide (j = i)
      by_cases h : j = i
      · rw [decide_eq_true h, h]; exact beq_self_eq_true i
      · rw [decide_eq_false h]; exact beq_eq_false_iff_ne.mpr h
    by_cases z : j = i
    · subst z
      refine .inr ⟨v, e.val, by simp [List.lookup_cons], ?_, rv⟩
      rw [List.find?_cons_of_pos (by rw [e1]; exact decide_eq_true rfl)]
      rfl
    · have n1 : (i == j) = false := beq_eq_false_iff_ne.mpr (Ne.symm z)
      rw [List.lookup_cons, n1, List.find?_cons_of_neg (by rw [e1]; simpa using z)]
      exact ih
section
variable {X : Cx}
theorem kid_map {p : Addr} {kvs : List (Int × V)} {h : Heap} (kin : X.K.In h) {es : List DictEntry} {n : Nat} (l : X.K.lookup p = some ⟨.type "dict", none, .dict es.toArray n, #[]⟩) (f : KEnts es kvs) :
    h.MapOf (intKind X.prog X.w) p fun i => findBy Value.isInt es.toArray i := by
  refine ⟨_, es.toArray, n, kin _ _ l, ⟨rfl, rfl, rfl⟩, rfl, fun e he => ?_, fun _ => rfl⟩
  have he : e ∈ es := by simpa using he
  revert he
  clear l
  intro he
  rename e ∈ es.toArray => old
  clear old
  induction f with
  | nil => cases he
  | cons a hh _ _ ih =>
    rcases List.mem_cons.mp he with z | z
    · subst z
      obtain ⟨t, ek⟩ := a
      exact ⟨_, by rw [ek]; exact intKind_is _ _ _ _, hh⟩
    · exact ih z
def rInKI (K : PySem.W.Frag) : R2 := fun x y H Q => ∃ (i : Int) (p : Addr) (kvs : List (Int × V)), x = .int i ∧ y = .ref p ∧ KID K p kvs ∧ Q (.bl (kvs.lookup i).isSome) H
theorem op_inKI : OpR X (compareOp .In) (rInKI X.K) := by
  intro pins s σ H x y v u Q I rx ry h
  obtain ⟨i, p, kvs, rfl, rfl, ⟨lo, es, n, l, f⟩, q⟩ := h
  obtain ⟨t, rfl⟩ := rx
  cases ry
  refine wpAny_in_of (intKind_is X.prog X.w i t) lo (kid_map I.kIn l f) ?_
  have e : (findBy Value.isInt es.toArray i).isSome = (kvs.lookup i).isSome := by
    rcases kid_find f i with ⟨a, b⟩ | ⟨_, _, a, b, _⟩ <;> rw [a, b] <;> rfl
  rw [e]
  exact ⟨.bl (kvs.lookup i).isSome, H, I.tok _, rfl, q⟩
def rIxKI (K : PySem.W.Frag) : R2 := fun x y H Q => ∃ (i : Int) (p : Addr) (kvs : List (Int × V)) (v : V), x = .ref p ∧ y = .int i ∧ KID K p kvs ∧ kvs.lookup i = some v ∧ Q v H
theorem ix_KI : IxR X (rIxKI X.K) := by
  intro value slice pins s σ H x y v u Q I rx ry h hs
  obtain ⟨i, p, kvs, z, rfl, rfl, ⟨lo, es, n, l, f⟩, hz, q⟩ := h
  obtain rfl : v = Value.ref p := rx
  obtain ⟨t, rfl⟩ := ry
  have hm := kid_map I.kIn l f
  rcases kid_find f i with ⟨a, _⟩ | ⟨v1, u1, a, b, r⟩
  · rw [a] at hz; cases hz
  · rw [a] at hz
    cases hz
    exact tail_any hm.typeIs slot_dict_getitem.lookup (wpAny_getItem_of (intKind_is X.prog X.w i t) hm b ⟨_, H, I.tok _, r, q⟩) hs
end
/-! ### steps -/
section
variable {σ : L2.St} {H : Hp} {Q : VK} {ta tb tc : TE} {i j : Int}
/-- what a comprehension asks -/
def LcQ (J : It) (g : TG) (tt : TT) (te : TE) (vs : List Nat) (σ : L2.St) (H1 : Hp) (Q : VK) : Prop := ∀ D, H1 D = none → ∃ W : Nat → Nat → Hp → Prop, (∃ m, W 0 m (upd H1 D (.lst []))) ∧ ∀ i m H, W i m H →
  (J.stop i H ∧ Q (.ref D) H) ∨ (J.go i H ∧ ∃ Nx : Hp → Prop, (∀ H', Nx H' → ∃ m', m' < m ∧ W (i + 1) m' H') ∧ ∀ x H', J.yld i H x H' → g x (wipe σ vs) H' fun σ2 H2 => wipe σ2 vs = wipe σ vs ∧ tt σ2 H2 fun b H3 =>
    if b = true then te σ2 H3 fun y H4 => ∃ acc, H4 D = some (.lst acc) ∧ acc.length < sizeLine ∧ Nx (upd H4 D (.lst (acc ++ [y]))) else Nx H3)
theorem w_lc {wi : TI} {g : TG} {tt : TT} {te : TE} {vs : List Nat} (q : wi σ H fun J H1 => LcQ J g tt te vs σ H1 Q) : tLc wi g tt te vs σ H Q := q
theorem w_notV (q : ta σ H fun x H1 => ∃ c, x = .bl c ∧ Q (.bl (!c)) H1) : tNotV ta σ H Q := q
theorem w_chain {r r' : R2} (q : ta σ H fun x H1 => tb σ H1 fun y H2 => r x y H2 fun z H3 => ∃ k, z = .bl k ∧ (if k = true then tc σ H3 fun w' H4 => r' y w' H4 Q else Q (.bl false) H3)) : tChain r r' ta tb tc σ H Q := q
theorem w_neg (q : Q (.int (-i)) H) : rU (fun i => .int (-i)) (.int i) H Q := ⟨i, rfl, q⟩
theorem w_shl (c : CPow i j) (q : Q (.int (i * 2 ^ j.toNat)) H) : rI CPow (fun i j => .int (i * 2 ^ j.toNat)) (.int i) (.int j) H Q := ⟨i, j, rfl, rfl, c, q⟩
theorem w_shr (c : 0 ≤ j) (q : Q (.int (i / 2 ^ j.toNat)) H) : rI (fun _ j => 0 ≤ j) (fun i j => .int (i / 2 ^ j.toNat)) (.int i) (.int j) H Q := ⟨i, j, rfl, rfl, c, q⟩
end
end KG

set_option Elab.async false
set_option linter.all false
set_option maxRecDepth 100000
set_option maxHeartbeats 1000000
/-! KI: the repr of a list in which own objects stand. -/
namespace KG
open PySem PySem.Spec PySem.Calls PyProof.Rows L2
/-- t is the text of v, whatever is being shown, at all heaps that T knows, and everything stays -/
def ItR (X : Cx) (k : Nat) (T : Hp → Prop) (v : V) (t : Str) : Prop :=
  ∀ (pins : List (Addr × Obj)) (σ : L2.St) (H : Hp) (A : Around) (s : Shared) (u : Value) (b : Nat) (E : Value → Shared → Prop) (Q : Str → Shared → Prop),
    A.frames = X.A.frames → Room k A → T H → Inv X pins σ H s → L2.RelV v u → b + t.length ≤ sizeLine → (∀ s', Inv X pins σ H s' → Q t s') → wpAny (model X.prog X.w) A (pyReprUnder b u) Q E s
section
variable {X : Cx} {k : Nat} {T : Hp → Prop}
theorem itR_str (z : Str) (hz : (reprText z).length ≤ sizeLine) : ItR X k T (.str z) (reprText z) := by
  intro pins σ H A s u b E Q _ _ _ I r hb q
  obtain ⟨tk, rfl⟩ := r
  exact ReprIs.str z tk hz b hb A E s Q fun t' => q _ (I.tok t')
theorem itR_own {f C a : Addr} {fd : FuncData} {ps : List Str} {sp : Sp} {E0 : XK} {t : Str} (F : FnOk X.prog X.w X.K X.mg X.base CX0 k f fd ps sp) (hs : PySem.W.findIn X.K (.ref C) "__repr__" = some (some (.ref f))) (hf : PySem.W.isFn X.K (.ref f) = true) (hb : Binds X.K fd ps [])
    (h : ∀ H, T H → ∃ dx fs, H a = some (.ins C dx fs) ∧ sp [.ref a] H (fun v H' => v = .str t ∧ H' = H) E0) : ItR X k T (.ref a) t := by
  intro pins σ H A s u b E Q hfr rm hT I r hlen q
  obtain rfl : u = Value.ref a := r
  obtain ⟨dx, fs, ea, hsp⟩ := h H hT
  obtain ⟨mA, J, _⟩ := ins_get I.hok ea
  obtain ⟨od, J, _⟩ := J.look
  have one : Vals [V.ref a] [Value.ref a] := .cons rfl .nil
  have bt := bind_pos (dvs := []) (vs := [V.ref a]) (Gd.of_ok F) hb .nil I.kIn one hsp
  have room := rm.units
  have e0 : Env0 X.prog X.w X.K X.mg X.base A X.stack s H := by
    have e := I.env0
    exact ⟨hfr.trans e.frames, e.mod, e.bs, e.bsz, e.funs, e.frf, e.hok, e.bare⟩
  have so : ∀ Q' : Option Value → Shared → Prop, Q' (some (.ref f)) s → wpAny (model X.prog X.w) A (specialOf (.ref a) (Str.ofString "__repr__")) Q' E s := fun Q' z => by
    unfold specialOf
    exact wpAny_bind (J.type.here ((PySem.W.looks_findIn I.kIn hs).here z))
  have ft : PySem.W.typeIn X.K (.ref f) = some (.type "function") := by
    unfold PySem.W.isFn at hf
    exact eq_of_beq hf
  have bs := PySem.W.bind_fn (M := model X.prog X.w) I.kIn (.ref a) ft
  refine wpAny_pyReprUnder_ref (by omega) ?_
  unfold pyReprObjUnder pyReprObjBy
  refine wpAny_bind (wpAny_cRoomFor (by omega) ?_)
  refine wpAny_bind (so _ ?_)
  simp only [Option.isNone_some, Bool.false_eq_true, if_false]
  refine wpAny_bind ?_
  unfold callSpecialIfBoundBy?
  refine wpAny_holding (wpAny_bind ?_)
  unfold bindSpecialIfBound?
  refine wpAny_bind (so _ ?_)
  simp only
  have fin : wpAny (model X.prog X.w) A (call (.ref f) [.ref a]) (fun v s' => ∃ tk, v = Value.str t tk ∧ Q t s') E s := by
    refine wpAny_call (codeAny_mono (F.run A X.stack s H _ _ _ _ E0 rm e0 bt one hsp) fun out s' hq => ?_)
    match out, hq with
    | .ok (.ret v), hq =>
      obtain ⟨v1, H1, J1, r1, e1, e2⟩ := I.after hq
      subst e1 e2
      obtain ⟨tk, rfl⟩ := r1
      exact ⟨tk, rfl, q _ J1⟩
  have back : wpAny (model X.prog X.w) A (match reprUnder? (.ref f), [Value.ref a] with | some twin, [self] => call twin [self, rawInt ↑b] | x, x_1 => call (.ref f) ([Value.ref a] ++ [])) (fun v s' => ∃ tk, v = Value.str t tk ∧ Q t s') E s := fin
  have rest : ∀ (r : Option (Value × List Value)), r = some (.ref f, [.ref a]) → True := fun _ _ => trivial
  have bd : ∀ Q' : Option (Value × List Value) → Shared → Prop, Q' (some (.ref f, [.ref a])) s → wpAny (model X.prog X.w) A (do let b ← bindSpecial (.ref f) (.ref a); pure (some b)) Q' E s := fun Q' z =>
    wpAny_bind (bs.here (wpAny_pure z))
  refine wpAny_bind (wpAny_askSetting ?_)
  have go : ∀ Q' : Option (Value × List Value) → Shared → Prop, Q' (some (.ref f, [.ref a])) s → wpAny (model X.prog X.w) A (if (model X.prog X.w).w.params.followText "special-get-raises" = true then (do let b ← bindSpecial (.ref f) (.ref a); pure (some b)) else (do let b ← bindSpecial (.ref f) (.ref a); pure (some b)).tryCatch fun x => do rule "special.get-raises-dropped"; pure none) Q' E s := fun Q' z => by
    split
    · exact bd Q' z
    · exact wpAny_tryCatch (wpAny_bind (bs.here (wpAny_pure z)))
  refine go _ ?_
  refine wpAny_bind (wpAny_mono back (fun v s' hv => ?_) fun _ _ z => z)
  obtain ⟨tk, rfl, z⟩ := hv
  refine wpAny_pure ?_
  refine wpAny_bind (wpAny_isInstance (T := "str") (b := true) (typeIs_str s' t tk) rfl ?_)
  exact wpAny_pure ⟨t, tk, rfl, z⟩
/-- the pieces of a list's text -/
inductive Its (X : Cx) (k : Nat) (T : Hp → Prop) : List V → List Str → Prop
  | nil : Its X k T [] []
  | cons {v : V} {t : Str} {vs : List V} {ts : List Str} : ItR X k T v t → Its X k T vs ts → Its X k T (v :: vs) (t :: ts)
theorem Its.get {vs : List V} {ts : List Str} (h : Its X k T vs ts) : ∀ (i : Nat) (v : V), vs[i]? = some v → ∃ t, ts[i]? = some t ∧ ItR X k T v t := by
  induction h with
  | nil => intro i v e; cases e
  | cons a b ih =>
    intro i v e
    cases i with
    | zero => cases e; exact ⟨_, rfl, a⟩
    | succ i => exact ih i v e
theorem Its.len {vs : List V} {ts : List Str} (h : Its X k T vs ts) : vs.length = ts.length := by
  induction h with
  | nil => rfl
  | cons a b ih => simp [ih]
def loopC (l P : Addr) (i : Nat) (n : Nat) : Code := .builtin "list.__repr__.loop" ⟨[.ref l, rawInt (i : Nat), .ref P, rawInt (n : Nat)], []⟩
theorem strs_done : ∀ {ts : List Str} {its : List Value}, Vals (ts.map V.str) its → ∃ done : List (Str × Tok), its = strValues done ∧ done.map (fun x => x.fst) = ts
  | [], _, .nil => ⟨[], rfl, rfl⟩
  | t :: ts, _, .cons r z => by
    obtain ⟨k, rfl⟩ := r
    obtain ⟨d, rfl, e⟩ := strs_done z
    exact ⟨(t, k) :: d, rfl, by rw [List.map_cons, e]⟩
theorem vals_get {vs : List V} {its : List Value} (h : Vals vs its) : ∀ (i : Nat), (∀ v, vs[i]? = some v → ∃ u, its[i]? = some u ∧ L2.RelV v u) ∧ (vs[i]? = none → its[i]? = none) := by
  induction h with
  | nil => intro i; exact ⟨fun v e => (by cases e), fun _ => rfl⟩
  | cons a b ih =>
    intro i
    cases i with
    | zero => exact ⟨fun v e => by cases e; exact ⟨_, rfl, a⟩, fun e => by cases e⟩
    | succ i => exact ih i
theorem piled_two : ∀ ts : List Str, 2 * ts.length ≤ piled ts
  | [] => Nat.zero_le _
  | t :: ts => by
    have h := piled_two ts
    have e : piled (t :: ts) = (t.length + 2) + piled ts := by
      unfold piled
      rw [List.map_cons, List.sum_cons]
    rw [e, List.length_cons]
    omega
theorem loop_weight (args : Args) : (Code.builtin "list.__repr__.loop" args).weight ≤ 3 := Nat.le_of_ble_eq_true rfl
theorem loop_units (args : Args) : (Code.builtin "list.__repr__.loop" args).cUnits ≤ 4 := Nat.le_of_ble_eq_true rfl
theorem rep_loop {l P : Addr} {vs : List V} {ts : List Str} {base : Nat} {R : Result → Shared → Prop} {A : Around} {pins : List (Addr × Obj)} {σ : L2.St} (its : Its X k T vs ts) (hfr : A.frames = X.A.frames) (rm : Room (k + 1) A)
    (stays : ∀ H xs, T H → T (upd H P (.lst xs))) (lst : ∀ H, T H → H l = some (.lst vs)) (sz : base + (listText ts).length ≤ sizeLine) :
    ∀ (n i : Nat) (s : Shared) (H : Hp), vs.length - i = n → i ≤ vs.length → T H → H P = some (.lst ((ts.take i).map V.str)) → Inv X pins σ H s → (∀ s' H' u, T H' → Inv X pins σ H' s' → R (.ok (.ret (.str (listText ts) u))) s') →
      codeAny (model X.prog X.w) A (loopC l P i (base + piled (ts.take i))) R s := by
  have room := rm.units
  intro n
  induction n with
  | zero =>
    intro i s H hn hi hT hP I q
    have ei : i = vs.length := by omega
    obtain ⟨us, m, rv, hg, _⟩ := I.lst (lst H hT)
    obtain ⟨ps, m2, rp, hgP, _⟩ := I.lst hP
    refine codeAny_builtin F.entry_list_repr_loop ?_
    show wpAny _ _ (Builtin.«list.__repr__.loop» { pos := [.ref l, .int (i : Nat) 0, .ref P, .int ((base + piled (ts.take i) : Nat) : Int) 0] }) _ _ _
    rw [repr_loop_tree]
    refine wpAny_bind (wpAny_listItems hg rfl ?_)
    have e1 : us.toArray[((i : Nat) : Int).toNat]? = none := by
      rw [Int.toNat_natCast, List.getElem?_toArray]
      exact (vals_get rv i).2 (by rw [ei]; exact List.getElem?_eq_none (Nat.le_refl _))
    rw [e1]
    show wpAny _ _ (reprEnd (.ref P)) _ _ _
    unfold reprEnd
    refine wpAny_bind (wpAny_listItems hgP rfl ?_)
    have et : ts.take i = ts := List.take_of_length_le (by rw [ei, its.len]; exact Nat.le_refl _)
    rw [et] at rp
    obtain ⟨done, rfl, ed⟩ := strs_done rp
    rw [List.toList_toArray, repr_fold, ed]
    refine wpAny_bind (wpAny_pure ?_)
    unfold retStr
    refine wpAny_bind (wpAny_mkStr ?_ (by show (listText ts).length ≤ _; omega))
    exact wpAny_pure (q _ _ _ hT (I.tok _))
  | succ n ih =>
    intro i s H hn hi hT hP I q
    have il : i < vs.length := by omega
    obtain ⟨us, m, rv, hg, _⟩ := I.lst (lst H hT)
    have hv : vs[i]? = some vs[i] := List.getElem?_eq_getElem il
    obtain ⟨u, hu, ru⟩ := (vals_get rv i).1 _ hv
    obtain ⟨t, ht, hit⟩ := its.get i _ hv
    have pt := piled_take_succ ht
    have p1 := piled_take_le ts (i + 1)
    have p2 := piled_le_listText ts
    refine codeAny_builtin F.entry_list_repr_loop ?_
    show wpAny _ _ (Builtin.«list.__repr__.loop» { pos := [.ref l, .int (i : Nat) 0, .ref P, .int ((base + piled (ts.take i) : Nat) : Int) 0] }) _ _ _
    rw [repr_loop_tree]
    refine wpAny_bind (wpAny_listItems hg rfl ?_)
    have e1 : us.toArray[((i : Nat) : Int).toNat]? = some u := by
      rw [Int.toNat_natCast, List.getElem?_toArray]
      exact hu
    rw [e1]
    simp only
    refine wpAny_bind (wpAny_holding (hit pins σ H _ s u _ _ _ ?_ ?_ hT I ru ?_ fun s1 I1 => ?_))
    · exact hfr
    · refine ⟨rm.hd, ?_, ?_⟩
      · have h1 := rm.dp
        have h2 := loop_weight ⟨[.ref l, rawInt (i : Nat), .ref P, rawInt (base + piled (ts.take i) : Nat)], []⟩
        show A.depth + (Code.builtin "list.__repr__.loop" ⟨[.ref l, rawInt (i : Nat), .ref P, rawInt (base + piled (ts.take i) : Nat)], []⟩).weight + 3 * k + 5 < _
        omega
      · have h1 := rm.un
        have h2 := loop_units ⟨[.ref l, rawInt (i : Nat), .ref P, rawInt (base + piled (ts.take i) : Nat)], []⟩
        show A.units + (Code.builtin "list.__repr__.loop" ⟨[.ref l, rawInt (i : Nat), .ref P, rawInt (base + piled (ts.take i) : Nat)], []⟩).cUnits + 16 * k + 200 < _
        omega
    · rw [Int.toNat_natCast]
      omega
    · obtain ⟨ps, m2, rp, hgP, lp⟩ := I1.lst hP
      refine wpAny_bind (wpAny_mkStr ?_ (by omega))
      have tl := piled_two (ts.take (i + 1))
      have tn : i < ts.length := by rw [← its.len]; exact il
      have tk : (ts.take (i + 1)).length = i + 1 := by rw [List.length_take]; omega
      have tk0 : (ts.take i).length = i := by rw [List.length_take]; omega
      have pl : ps.length = i := by rw [← rp.length, List.length_map, tk0]
      refine wpAny_bind (listUpdate_at hgP rfl ?_ (by rw [List.size_toArray, pl]; omega) (by rw [Array.size_push, List.size_toArray, pl]; omega))
      have J := I1.lset (f := fun x => x.push (.str t s1.toks)) (its' := ps ++ [.str t s1.toks]) (ys := (ts.take i).map V.str ++ [.str t]) (t' := s1.toks + 1) hP hgP (by simp) (rp.append (.cons (show L2.RelV (.str t) _ from ⟨_, rfl⟩) .nil)) (by rw [List.length_append, List.length_map, tk0]; show i + 1 ≤ _; omega)
      refine wpAny_pure ⟨F.quiet_list_repr_loop _, ?_⟩
      have e2 : (ts.take (i + 1)).map V.str = (ts.take i).map V.str ++ [.str t] := by
        rw [List.take_succ, ht, List.map_append]
        rfl
      have z := ih (i + 1) _ (upd H P (.lst ((ts.take (i + 1)).map V.str))) (by omega) il (stays _ _ hT) upd_same (by rw [e2]; exact J) q
      have e3 : base + piled (ts.take (i + 1)) = ((base + piled (ts.take i) : Nat) : Int).toNat + (t.length + 2) := by
        rw [Int.toNat_natCast]
        omega
      unfold loopC at z
      rw [e3] at z
      exact z
/-- repr(l), l a list whose items' texts are known, own objects among them -/
def rReprL (X : Cx) (k : Nat) : List V → Hp → VK → Prop := fun xs H Q => ∃ l vs ts, xs = [.ref l] ∧ H l = some (.lst vs) ∧ vs ≠ [] ∧ Its X k (fun H' => ∀ b o, H b = some o → H' b = some o) vs ts ∧ (listText ts).length ≤ sizeLine ∧ ∀ H', (∀ b o, H b = some o → H' b = some o) → Q (.str (listText ts)) H'
theorem call_reprL (rm : Room (k + 2) X.A) (gd : X.A.guards = some []) : CallR X (.builtin "repr") (rReprL X k) := by
  intro pins s σ H xs us Q I r h
  obtain ⟨l, vs, ts, rfl, hl, ne, its, sz, q⟩ := h
  obtain ⟨u, rfl, r1⟩ := vals1 r
  obtain rfl : u = Value.ref l := r1
  obtain ⟨us, m, rv, hg, _⟩ := I.lst hl
  have room := rm.units
  have ty : s.TypeIs (.ref l) "list" := ⟨_, hg, rfl⟩
  refine call_repr_slot (by omega) ty ⟨F.slot_list_repr.lookup, F.slot_list_repr.bind, F.slot_list_repr.check⟩ ?_
  refine wpAny_call (codeAny_call_builtin F.slot_list_repr.plain F.entry_list_repr (F.slot_list_repr.check _ _ _ _ _ _ _ _ ty (F.args_list_repr_1 _) ?_))
  obtain ⟨x, xs', eu⟩ : ∃ x xs', us = x :: xs' := by
    cases us with
    | nil => cases rv; exact absurd rfl ne
    | cons x xs' => exact ⟨x, xs', rfl⟩
  subst eu
  refine wpAny_list_repr_head (g := []) gd (fun v rest kw h => nomatch h) hg rfl ?_
  refine wpAny_bind (wpAny_newList ?_ (Nat.zero_le _))
  refine wpAny_pure ⟨F.quiet_list_repr_loop _, ?_⟩
  have J := I.lnew (ys := []) (its := []) (t' := s.toks) .nil (Nat.zero_le _)
  have nP : H s.heap.objs.size = none := I.hok.fresh (Nat.le_refl _)
  have key := rep_loop (T := fun H' => ∀ b o, H b = some o → H' b = some o) (P := s.heap.objs.size) (base := 0) (R := fun r s' => match r with | .ok (.ret v) => (∃ x t, v = Value.str x t ∧ EP X pins σ Q v s') | _ => False) (A := X.A.in1) its rfl rm.in1 (fun H' ys hT b o e => ?_) (fun H' hT => hT _ _ hl) (by omega) vs.length 0 _ _ rfl (Nat.zero_le _) (fun b o e => ?_) upd_same J ?_
  · refine codeAny_mono key fun out s' hq => ?_
    match out, hq with
    | .ok (.ret v), hq => exact hq
  · rw [upd_ne (ne_of_none e nP)]
    exact hT b o e
  · rw [upd_ne (ne_of_none e nP)]
    exact e
  · intro s' H' u hT J'
    exact ⟨_, _, rfl, .str (listText ts), H', J', ⟨u, rfl⟩, q H' hT⟩
end
end KG

set_option Elab.async false
set_option linter.all false
set_option maxRecDepth 100000
set_option maxHeartbeats 400000
/-! KM: words moved, kept and flipped, bit by bit. -/
namespace KG
/-- a word moved by s, cut off to w bits -/
def gN (w : Nat) (s : Int) (v : Nat) : Nat := if s < 0 then v >>> (-s).toNat else (v <<< s.toNat) % 2 ^ w
def fullN (w : Nat) : Nat := 2 ^ w - 1
/-- .. kept and flipped -/
def FN (w : Nat) (s : Int) (k f v : Nat) : Nat := (gN w s v &&& k) ^^^ f
theorem gN_bit {w : Nat} {s : Int} {v j : Nat} (hv : v < 2 ^ w) : (gN w s v).testBit j = (decide (j < w) && decide (s ≤ (j : Int)) && v.testBit ((j : Int) - s).toNat) := by
  unfold gN
  by_cases h : s < 0
  · rw [if_pos h, Nat.testBit_shiftRight]
    have e : (-s).toNat + j = ((j : Int) - s).toNat := by omega
    rw [e, decide_eq_true (show s ≤ (j : Int) by omega), Bool.and_true]
    by_cases hj : j < w
    · rw [decide_eq_true hj, Bool.true_and]
    · rw [decide_eq_false hj, Bool.false_and]
      exact Nat.testBit_lt_two_pow (Nat.lt_of_lt_of_le hv (Nat.pow_le_pow_right (by decide) (by omega)))
  · rw [if_neg h, Nat.testBit_mod_two_pow, Nat.testBit_shiftLeft]
    by_cases h2 : s ≤ (j : Int)
    · have e : j - s.toNat = ((j : Int) - s).toNat := by omega
      rw [e, decide_eq_true h2, decide_eq_true (show j ≥ s.toNat by omega), Bool.and_true, Bool.true_and]
    · rw [decide_eq_false h2, decide_eq_false (show ¬ j ≥ s.toNat by omega)]
      simp
theorem gN_lt {w : Nat} {s : Int} {v : Nat} (hv : v < 2 ^ w) : gN w s v < 2 ^ w := by
  refine Nat.lt_pow_two_of_testBit _ fun i hi => ?_
  rw [gN_bit hv, decide_eq_false (by omega)]
  rfl
theorem full_lt (w : Nat) : fullN w < 2 ^ w := Nat.sub_lt (Nat.pow_pos (by decide)) (by decide)
theorem full_bit {w j : Nat} : (fullN w).testBit j = decide (j < w) := by
  unfold fullN
  exact Nat.testBit_two_pow_sub_one w j
theorem gN_xor {w : Nat} {s : Int} {a b : Nat} (ha : a < 2 ^ w) (hb : b < 2 ^ w) : gN w s (a ^^^ b) = gN w s a ^^^ gN w s b := by
  refine Nat.eq_of_testBit_eq fun j => ?_
  rw [Nat.testBit_xor, gN_bit (Nat.xor_lt_two_pow ha hb), gN_bit ha, gN_bit hb, Nat.testBit_xor]
  cases decide (j < w) <;> cases decide (s ≤ (j : Int)) <;> simp
theorem gN_zero {w : Nat} {s : Int} : gN w s 0 = 0 := by
  unfold gN
  split <;> simp
theorem FN_zero {w : Nat} {s : Int} {k f : Nat} : FN w s k f 0 = f := by
  unfold FN
  rw [gN_zero]
  simp
theorem FN_lt {w : Nat} {s : Int} {k f v : Nat} (hk : k < 2 ^ w) (hf : f < 2 ^ w) : FN w s k f v < 2 ^ w := Nat.xor_lt_two_pow (Nat.and_lt_two_pow _ hk) hf
/-- three results make a fourth -/
theorem FN_xor {w : Nat} {s : Int} {k f a b : Nat} (ha : a < 2 ^ w) (hb : b < 2 ^ w) : FN w s k f (a ^^^ b) = FN w s k f a ^^^ FN w s k f b ^^^ FN w s k f 0 := by
  rw [FN_zero]
  unfold FN
  rw [gN_xor ha hb]
  refine Nat.eq_of_testBit_eq fun j => ?_
  simp only [Nat.testBit_xor, Nat.testBit_and]
  cases (gN w s a).testBit j <;> cases (gN w s b).testBit j <;> cases k.testBit j <;> cases f.testBit j <;> rfl
/-- what agrees at 0 and at the single bits below t agrees below 2 ^ t -/
theorem agree_below {F G : Nat → Nat} {w : Nat} (hF : ∀ a b, a < 2 ^ w → b < 2 ^ w → F (a ^^^ b) = F a ^^^ F b ^^^ F 0) (hG : ∀ a b, a < 2 ^ w → b < 2 ^ w → G (a ^^^ b) = G a ^^^ G b ^^^ G 0) (h0 : F 0 = G 0) :
    ∀ t, t ≤ w → (∀ i, i < t → F (2 ^ i) = G (2 ^ i)) → ∀ v, v < 2 ^ t → F v = G v
  | 0, _, _, v, hv => by
    have : v = 0 := by simpa using hv
    rw [this, h0]
  | t + 1, ht, hs, v, hv => by
    by_cases lo : v < 2 ^ t
    · exact agree_below hF hG h0 t (by omega) (fun i hi => hs i (by omega)) v lo
    · have up : v.testBit t = true := Nat.testBit_of_two_pow_le_and_two_pow_add_one_gt (by omega) hv
      have hu : v ^^^ 2 ^ t < 2 ^ t := by
        refine Nat.lt_pow_two_of_testBit _ fun i hi => ?_
        rw [Nat.testBit_xor, Nat.testBit_two_pow]
        by_cases e : t = i
        · subst e
          rw [up, decide_eq_true rfl]
          rfl
        · rw [decide_eq_false e, Bool.xor_false]
          exact Nat.testBit_lt_two_pow (Nat.lt_of_lt_of_le hv (Nat.pow_le_pow_right (by decide) (by omega)))
      have ev : v = (v ^^^ 2 ^ t) ^^^ 2 ^ t := by
        rw [Nat.xor_assoc, Nat.xor_self, Nat.xor_zero]
      have big : 2 ^ t < 2 ^ w := Nat.pow_lt_pow_right (by decide) (by omega)
      have ih := agree_below hF hG h0 t (by omega) (fun i hi => hs i (by omega)) _ hu
      rw [ev, hF _ _ (Nat.lt_trans hu big) big, hG _ _ (Nat.lt_trans hu big) big, ih, hs t (by omega), h0]
/-- the kept bits that have a source -/
def kN (w : Nat) (s : Int) (k : Nat) : Nat := k &&& gN w s (fullN w)
theorem kN_bit {w : Nat} {s : Int} {k j : Nat} : (kN w s k).testBit j = (k.testBit j && (decide (j < w) && decide (s ≤ (j : Int)) && decide (((j : Int) - s).toNat < w))) := by
  unfold kN
  rw [Nat.testBit_and, gN_bit (full_lt w), full_bit]
def sN (w : Nat) (s : Int) (k : Nat) : Int := if kN w s k = 0 then 0 else s
theorem FN_norm {w : Nat} {s : Int} {k f v : Nat} : FN w (sN w s k) (kN w s k) f v = FN w s (kN w s k) f v := by
  unfold FN sN
  by_cases h : kN w s k = 0
  · rw [h]; simp
  · rw [if_neg h]
/-- bit j of the result -/
theorem FN_bit {w : Nat} {s : Int} {k f v j : Nat} (hv : v < 2 ^ w) : (FN w s (kN w s k) f v).testBit j =
    ((k.testBit j && (decide (j < w) && decide (s ≤ (j : Int)) && decide (((j : Int) - s).toNat < w)) && v.testBit ((j : Int) - s).toNat) ^^ f.testBit j) := by
  unfold FN
  rw [Nat.testBit_xor, Nat.testBit_and, kN_bit, gN_bit hv]
  cases k.testBit j <;> cases decide (j < w) <;> cases decide (s ≤ (j : Int)) <;> cases decide (((j : Int) - s).toNat < w) <;> simp
theorem single_bit {w : Nat} {s : Int} {k f i j : Nat} (hi : i < w) : (FN w s (kN w s k) f (2 ^ i)).testBit j = (((kN w s k).testBit j && decide (((j : Int) - s).toNat = i)) ^^ f.testBit j) := by
  rw [FN_bit (Nat.pow_lt_pow_right (by decide) hi), kN_bit, Nat.testBit_two_pow]
  have e : decide (i = ((j : Int) - s).toNat) = decide (((j : Int) - s).toNat = i) := by
    by_cases h : i = ((j : Int) - s).toNat
    · rw [decide_eq_true h, decide_eq_true h.symm]
    · rw [decide_eq_false h, decide_eq_false fun z => h z.symm]
  rw [e]
theorem kN_sub {w : Nat} {s s' : Int} {k k' f f' : Nat} (h0 : f = f') (h : ∀ i, i < w → FN w s (kN w s k) f (2 ^ i) = FN w s' (kN w s' k') f' (2 ^ i)) {j : Nat} (hj : (kN w s k).testBit j = true) :
    (kN w s' k').testBit j = true ∧ s' = s := by
  have b := hj
  rw [kN_bit] at b
  simp only [Bool.and_eq_true, decide_eq_true_eq] at b
  obtain ⟨_, ⟨b1, b2⟩, b3⟩ := b
  have e := congrArg (fun x => Nat.testBit x j) (h _ b3)
  rw [single_bit b3, single_bit b3, hj, h0] at e
  simp only [decide_eq_true, Bool.and_true] at e
  have t : ((kN w s' k').testBit j && decide (((j : Int) - s').toNat = ((j : Int) - s).toNat)) = true := by
    revert e
    cases ((kN w s' k').testBit j && decide (((j : Int) - s').toNat = ((j : Int) - s).toNat)) <;> cases f'.testBit j <;> simp
  rw [Bool.and_eq_true, decide_eq_true_eq] at t
  refine ⟨t.1, ?_⟩
  have b' := t.1
  rw [kN_bit] at b'
  simp only [Bool.and_eq_true, decide_eq_true_eq] at b'
  obtain ⟨_, ⟨_, c2⟩, _⟩ := b'
  have t2 := t.2
  omega
/-- normal forms of equal functions are equal -/
theorem norm_unique {w : Nat} {s s' : Int} {k k' f f' : Nat} (h0 : FN w s (kN w s k) f 0 = FN w s' (kN w s' k') f' 0) (h : ∀ i, i < w → FN w s (kN w s k) f (2 ^ i) = FN w s' (kN w s' k') f' (2 ^ i)) :
    f = f' ∧ kN w s k = kN w s' k' ∧ sN w s k = sN w s' k' := by
  rw [FN_zero, FN_zero] at h0
  have ek : kN w s k = kN w s' k' := by
    refine Nat.eq_of_testBit_eq fun j => ?_
    cases a : (kN w s k).testBit j with
    | true => exact ((kN_sub h0 h a).1).symm
    | false =>
      cases b : (kN w s' k').testBit j with
      | false => rfl
      | true => rw [(kN_sub h0.symm (fun i hi => (h i hi).symm) b).1] at a; cases a
  refine ⟨h0, ek, ?_⟩
  unfold sN
  by_cases z : kN w s k = 0
  · rw [if_pos z, if_pos (ek ▸ z)]
  · rw [if_neg z, if_neg (ek ▸ z)]
    have some_ : ∃ j, (kN w s k).testBit j = true := by
      by_cases q : ∃ j, (kN w s k).testBit j = true
      · exact q
      · exact absurd (Nat.eq_of_testBit_eq fun j => by
          rw [Nat.zero_testBit]
          exact Bool.eq_false_iff.mpr fun t => q ⟨j, t⟩) z
    obtain ⟨j, hj⟩ := some_
    exact (kN_sub h0 h hj).2.symm
/-- 0 and the single bits -/
def probes (w : Nat) : List Nat := 0 :: (List.range w).map (2 ^ ·)
/-- the first of the probes that parts -/
theorem probes_first {w : Nat} {p : Nat → Bool} {v : Nat} (h : (probes w).find? p = some v) : p v = true ∧ (v = 0 ∨ ∃ t, t < w ∧ v = 2 ^ t ∧ p 0 = false ∧ ∀ i, i < t → p (2 ^ i) = false) := by
  have pv := List.find?_some h
  refine ⟨pv, ?_⟩
  unfold probes at h
  rw [List.find?_cons] at h
  cases p0 : p 0 with
  | true => rw [p0] at h; cases h; exact .inl rfl
  | false =>
    rw [p0] at h
    right
    obtain ⟨l, r, e, hl⟩ := List.find?_eq_some_iff_append.mp h |>.2
    have el := congrArg List.length e
    rw [List.length_map, List.length_range, List.length_append, List.length_cons] at el
    have at_ : ∀ i, i < w → ((List.range w).map (2 ^ ·))[i]? = some (2 ^ i) := fun i hi => by simp [hi]
    refine ⟨l.length, by omega, ?_, rfl, fun i hi => ?_⟩
    · have a := at_ l.length (by omega)
      rw [e] at a
      simpa using a
    · have a := at_ i (by omega)
      rw [e, List.getElem?_append_left hi] at a
      have m := hl _ (List.mem_of_getElem? a)
      simpa using m
theorem probes_none {w : Nat} {p : Nat → Bool} (h : (probes w).find? p = none) : p 0 = false ∧ ∀ i, i < w → p (2 ^ i) = false := by
  have q := List.find?_eq_none.mp h
  refine ⟨?_, fun i hi => ?_⟩
  · simpa using q 0 (by simp [probes])
  · simpa using q (2 ^ i) (by simp [probes]; exact ⟨i, hi, rfl⟩)
/-- .. is the first of all words that parts -/
theorem range_first {F G : Nat → Nat} {w : Nat} (hF : ∀ a b, a < 2 ^ w → b < 2 ^ w → F (a ^^^ b) = F a ^^^ F b ^^^ F 0) (hG : ∀ a b, a < 2 ^ w → b < 2 ^ w → G (a ^^^ b) = G a ^^^ G b ^^^ G 0) :
    (List.range (2 ^ w)).find? (fun v => decide (F v ≠ G v)) = (probes w).find? (fun v => decide (F v ≠ G v)) := by
  have no : ∀ {v}, decide (F v ≠ G v) = false → F v = G v := fun h => by simpa using h
  cases h : (probes w).find? (fun v => decide (F v ≠ G v)) with
  | none =>
    obtain ⟨a, b⟩ := probes_none h
    refine List.find?_eq_none.mpr fun v hv => ?_
    have q := agree_below hF hG (no a) w (Nat.le_refl _) (fun i hi => no (b i hi)) v (List.mem_range.mp hv)
    simp [q]
  | some v =>
    obtain ⟨pv, z⟩ := probes_first h
    have lt : v < 2 ^ w ∧ ∀ u, u < v → F u = G u := by
      rcases z with rfl | ⟨t, ht, rfl, p0, ps⟩
      · exact ⟨Nat.pow_pos (by decide), fun u hu => absurd hu (Nat.not_lt_zero _)⟩
      · exact ⟨Nat.pow_lt_pow_right (by decide) ht, fun u hu => agree_below hF hG (no p0) t (by omega) (fun i hi => no (ps i hi)) u hu⟩
    refine List.find?_range_eq_some.mpr ⟨pv, List.mem_range.mpr lt.1, fun u hu => ?_⟩
    simp [lt.2 u hu]
theorem below_first {F G : Nat → Nat} {w v u : Nat} (hF : ∀ a b, a < 2 ^ w → b < 2 ^ w → F (a ^^^ b) = F a ^^^ F b ^^^ F 0) (hG : ∀ a b, a < 2 ^ w → b < 2 ^ w → G (a ^^^ b) = G a ^^^ G b ^^^ G 0)
    (h : (probes w).find? (fun v => decide (F v ≠ G v)) = some v) (hu : u < v) : F u = G u := by
  have no : ∀ {v}, decide (F v ≠ G v) = false → F v = G v := fun h => by simpa using h
  obtain ⟨pv, z⟩ := probes_first h
  rcases z with rfl | ⟨t, ht, rfl, p0, ps⟩
  · exact absurd hu (Nat.not_lt_zero _)
  · exact agree_below hF hG (no p0) t (by omega) (fun i hi => no (ps i hi)) u hu
/-- a number put together bit by bit -/
theorem bits_step {x p : Nat} : x % 2 ^ p + (x.testBit p).toNat * 2 ^ p = x % 2 ^ (p + 1) := by
  rw [Nat.mod_pow_succ, Nat.toNat_testBit, Nat.mul_comm]
open PySem in
theorem and_pow {x : Int} {n : Nat} (h : 0 ≤ x) : Builtin.bitAnd x (1 * 2 ^ n - 1) = x % 2 ^ n := by
  obtain ⟨m, rfl⟩ := Int.eq_ofNat_of_zero_le h
  have p : 0 < 2 ^ n := Nat.pow_pos (by decide)
  have e : (1 * 2 ^ n - 1 : Int) = ((2 ^ n - 1 : Nat) : Int) := by
    rw [Int.natCast_sub p]
    simp
  rw [e]
  unfold Builtin.bitAnd
  rw [decide_eq_true (Int.natCast_nonneg m), decide_eq_true (Int.natCast_nonneg _)]
  show ((m &&& (2 ^ n - 1) : Nat) : Int) = _
  rw [Nat.and_two_pow_sub_one_eq_mod]
  simp
end KG

set_option Elab.async false
set_option linter.all false
set_option maxRecDepth 100000
set_option maxHeartbeats 1000000
/-! KP: operators with a whole number on the left of an own object, in-place forms of own operators, the unary one. -/
namespace KG
open PySem PySem.Spec PySem.Calls PyProof.Rows L2
/-- what a whole number's own operator says beside an own object -/
def Nay (op : Operator) (idl : String) : Prop := ∀ (prog : Program) (w : World) (A : Around) (E : Value → Shared → Prop) (s : Shared) (i : Int) (t : Tok) (x C dx : Addr) (Q : Option Value → Shared → Prop), s.heap.get? x = some (PySem.W.instObj C dx) → Q none s → wpAny (model prog w) A (tryMethod (.int i t) (PySem.dunder op.info.2) (.ref x)) Q E s
theorem meets_and (i : Int) (t : Tok) (x C dx : Addr) : Meets (Builtin.«int.__and__» ⟨[.int i t, .ref x], []⟩) (fun _ R s => s.heap.get? x = some (PySem.W.instObj C dx) ∧ R (.ok (.ret Value.notImplemented)) s) :=
  .of_wp fun prog w A R s h => by
    obtain ⟨hp, g, d, tk, os⟩ := s
    obtain ⟨hl, h⟩ := h
    wp_walk using wpAny_loadPart' hl
    exact ⟨_, rfl, h⟩
theorem nay_and : Nay .BitAnd "int.__and__" := by
  intro prog w A E s i t x C dx Q ho q
  exact wpAny_tryMethod_declines (name := PySem.dunder "and") (typeIs_int s i t) PyProof.Rows.slot_int_and (call_meets PyProof.Rows.slot_int_and (typeIs_int s i t) PyProof.Rows.entry_int_and (PyProof.Rows.args_int_and _ _) (meets_and i t x C dx) ⟨ho, rfl, q⟩)
theorem meets_or (i : Int) (t : Tok) (x C dx : Addr) : Meets (Builtin.«int.__or__» ⟨[.int i t, .ref x], []⟩) (fun _ R s => s.heap.get? x = some (PySem.W.instObj C dx) ∧ R (.ok (.ret Value.notImplemented)) s) :=
  .of_wp fun prog w A R s h => by
    obtain ⟨hp, g, d, tk, os⟩ := s
    obtain ⟨hl, h⟩ := h
    wp_walk using wpAny_loadPart' hl
    exact ⟨_, rfl, h⟩
theorem nay_or : Nay .BitOr "int.__or__" := by
  intro prog w A E s i t x C dx Q ho q
  exact wpAny_tryMethod_declines (name := PySem.dunder "or") (typeIs_int s i t) PyProof.Rows.slot_int_or (call_meets PyProof.Rows.slot_int_or (typeIs_int s i t) PyProof.Rows.entry_int_or (PyProof.Rows.args_int_or _ _) (meets_or i t x C dx) ⟨ho, rfl, q⟩)
theorem meets_xor (i : Int) (t : Tok) (x C dx : Addr) : Meets (Builtin.«int.__xor__» ⟨[.int i t, .ref x], []⟩) (fun _ R s => s.heap.get? x = some (PySem.W.instObj C dx) ∧ R (.ok (.ret Value.notImplemented)) s) :=
  .of_wp fun prog w A R s h => by
    obtain ⟨hp, g, d, tk, os⟩ := s
    obtain ⟨hl, h⟩ := h
    wp_walk using wpAny_loadPart' hl
    exact ⟨_, rfl, h⟩
theorem nay_xor : Nay .BitXor "int.__xor__" := by
  intro prog w A E s i t x C dx Q ho q
  exact wpAny_tryMethod_declines (name := PySem.dunder "xor") (typeIs_int s i t) PyProof.Rows.slot_int_xor (call_meets PyProof.Rows.slot_int_xor (typeIs_int s i t) PyProof.Rows.entry_int_xor (PyProof.Rows.args_int_xor _ _) (meets_xor i t x C dx) ⟨ho, rfl, q⟩)
section
variable {prog : Program} {w : World} {A : Around} {E : Value → Shared → Prop} {s : Shared} {K : PySem.W.Frag} {x C dx f g : Addr} {od : Option Obj} {h₀ : Heap} {L : Addr} {m : Str → Option Value} {op : Operator} {idl : String} {i : Int} {t : Tok}
/-- i op o, o an own object whose class has the operator on both sides -/
theorem back_side {Q : Value → Shared → Prop} (X : K.In s.heap) (I : PySem.W.InstAt s.heap x (PySem.W.instObj C dx) C od) (hc : PySem.W.selfFirst K C = true)
    (hs : PySem.W.findIn K (.ref C) (PySem.dunder op.info.2) = some (some (.ref f))) (hr : PySem.W.findIn K (.ref C) (dunderR op.info.2) = some (some (.ref g))) (hg : PySem.W.isFn K (.ref g) = true)
    (hsub : PySem.W.subIn K (.ref C) (.type "int") = some false) (fills : fillsNumberSlot (.type "int") op.info.2 = pure true) (no : Nay op idl)
    (q : wpAny (model prog w) A (call (.ref g) [.ref x, .int i t]) (PySem.W.CmpBack Q) E s) : wpAny (model prog w) A (binaryOp op (.int i t) (.ref x)) Q E s := by
  obtain ⟨cd, rest, ec, em⟩ := PySem.W.ksp_first hc
  have fl := PySem.W.fills_K (M := model prog w) X ec em hs
  have tx := I.type (M := model prog w)
  have tr := PySem.W.ksp_try (M := model prog w) (A := A) (E := E) X I hr hg q
  have tl : ∀ Q', Q' none s → wpAny (model prog w) A (tryMethod (.int i t) (PySem.dunder op.info.2) (.ref x)) Q' E s := fun Q' z => no prog w A E s i t x C dx Q' I.at_ z
  have sb := PySem.W.looks_subIn (M := model prog w) X hsub
  rcases ho : op.info with ⟨sym, nm⟩
  rw [ho] at fl tr tl fills
  simp only at fl tr tl fills
  have ne : (Value.type "int" == Value.ref C) = false := rfl
  have np : numberSlotInPython (.type "int") nm = pure false := rfl
  simp only [binaryOp, ho]
  refine wpAny_holding (wpAny_bind ?_)
  unfold binaryOp1
  refine wpAny_bind (wpAny_typeOf (typeIs_int s i t) (wpAny_bind (tx.here (wpAny_bind (wpAny_of_eq fills ?_)))))
  simp only [ne, Bool.false_eq_true, if_false]
  refine wpAny_bind (fl.here ?_)
  simp only [Bool.and_self, if_true]
  refine wpAny_bind (sb.here ?_)
  simp only [Bool.false_eq_true, if_false, pure_bind, Bool.not_false, Bool.and_self, if_true, np]
  refine wpAny_bind (tl _ ?_)
  refine wpAny_bind (wpAny_mono tr (fun r s' z => ?_) fun _ _ z => z)
  obtain ⟨v, rfl, z⟩ := z
  exact wpAny_bind (wpAny_rule (wpAny_pure (wpAny_pure z)))
/-- what o op i asks and does, o an own object whose class has the operator, i a whole number -/
theorem fore_side {Q : Option Value → Shared → Prop} {rc ro : Option Value} (X : K.In s.heap) (I : PySem.W.InstAt s.heap x (PySem.W.instObj C dx) C od) (hc : PySem.W.selfFirst K C = true)
    (hs : PySem.W.findIn K (.ref C) (PySem.dunder op.info.2) = some (some (.ref f))) (hf : PySem.W.isFn K (.ref f) = true) (hr : PySem.W.findIn K (.ref C) (dunderR op.info.2) = some rc) (hp : rc = none ∨ ∃ b : Addr, rc = some (.ref b))
    (hsub : PySem.W.subIn K (.type "int") (.ref C) = some false) (fills : fillsNumberSlot (.type "int") op.info.2 = pure true) (hi : PySem.W.findIn K (.type "int") (dunderR op.info.2) = some ro)
    (q : wpAny (model prog w) A (call (.ref f) [.ref x, .int i t]) (PySem.W.CmpBack fun v => Q (some v)) E s) : wpAny (model prog w) A (binaryOp1 op.info.2 (.ref x) (.int i t)) Q E s := by
  obtain ⟨cd, rest, ec, em⟩ := PySem.W.ksp_first hc
  have fl := PySem.W.fills_K (M := model prog w) X ec em hs
  have tx := I.type (M := model prog w)
  have tr := PySem.W.ksp_try (M := model prog w) (A := A) (E := E) (Q := fun v => Q (some v)) X I hs hf q
  have py := PySem.W.ksp_inPy (M := model prog w) X hs hr hp
  have sb := PySem.W.looks_subIn (M := model prog w) X hsub
  have lr := PySem.W.looks_findIn (M := model prog w) X hi
  generalize op.info.2 = nm at fl tr py lr fills
  have ne : (Value.ref C == Value.type "int") = false := rfl
  have np : numberSlotInPython (.type "int") nm = pure false := rfl
  unfold binaryOp1
  refine wpAny_bind (tx.here (wpAny_bind (wpAny_typeOf (typeIs_int s i t) (wpAny_bind (fl.here ?_)))))
  simp only [ne, Bool.false_eq_true, if_false]
  refine wpAny_bind (wpAny_of_eq fills ?_)
  simp only [Bool.and_self, if_true]
  refine wpAny_bind (sb.here ?_)
  simp only [Bool.false_eq_true, if_false, pure_bind, Bool.not_false, Bool.and_self, if_true]
  refine wpAny_bind (py.here ?_)
  simp only [if_true, np, pure_bind, Bool.not_false]
  refine wpAny_bind (lr.here ?_)
  refine wpAny_bind (wpAny_mono tr (fun r s' z => ?_) fun _ _ z => z)
  obtain ⟨v, rfl, z⟩ := z
  exact wpAny_pure z
theorem none_any {M : Model} {h : Heap} {i' : Str} {g' : Value → Option Value → Sem Bool} (X : K.In h) (z : ∀ c, g' c none = pure false) : ∀ {cs : List Value}, (∀ c ∈ cs, PySem.W.findIn K c i' = some none) →
    PySem.W.Looks M h (cs.anyM fun c => typeLookup c i' >>= g' c) false
  | [], _ => .of_pure rfl
  | c :: cs, a => fun A Q E s k q => by
    rw [List.anyM_cons]
    refine wpAny_bind (wpAny_bind ((PySem.W.looks_findIn X (a c (.head _))) A _ E s k ?_))
    rw [z c]
    refine wpAny_pure ?_
    simp only [Bool.false_eq_true, if_false]
    exact none_any X z (fun c' m => a c' (.tail _ m)) A Q E s k q
/-- a class that has no in-place form of an operator -/
theorem no_inp {M : Model} {h : Heap} {cd : ClassData} {nm : String} {add : Bool} (X : K.In h) (hc : PySem.W.clsIn K C = some cd) (hn : ∀ c ∈ cd.mro, PySem.W.findIn K c (dunderI nm) = some none) : PySem.W.Looks M h (fillsInplaceSlot (.ref C) nm add) false := fun A Q E s k q => by
  have Lm : PySem.W.Looks M h (mroOf (.ref C)) cd.mro := (PySem.W.looks_clsIn X hc).andThen (f := fun cd => pure cd.mro) .now
  unfold fillsInplaceSlot
  exact wpAny_bind (Lm A _ E s k (none_any X (fun _ => rfl) hn A Q E s k q))
/-- o op= i where the class has the operator and no in-place form of it -/
theorem inp_side {Q : Value → Shared → Prop} {cd : ClassData} {rc ro : Option Value} (X : K.In s.heap) (I : PySem.W.InstAt s.heap x (PySem.W.instObj C dx) C od) (hc : PySem.W.selfFirst K C = true) (hd : PySem.W.clsIn K C = some cd) (hn : ∀ c ∈ cd.mro, PySem.W.findIn K c (dunderI op.info.2) = some none)
    (hs : PySem.W.findIn K (.ref C) (PySem.dunder op.info.2) = some (some (.ref f))) (hf : PySem.W.isFn K (.ref f) = true) (hr : PySem.W.findIn K (.ref C) (dunderR op.info.2) = some rc) (hp : rc = none ∨ ∃ b : Addr, rc = some (.ref b))
    (hsub : PySem.W.subIn K (.type "int") (.ref C) = some false) (fills : fillsNumberSlot (.type "int") op.info.2 = pure true) (hi : PySem.W.findIn K (.type "int") (dunderR op.info.2) = some ro)
    (q : wpAny (model prog w) A (call (.ref f) [.ref x, .int i t]) (PySem.W.CmpBack Q) E s) : wpAny (model prog w) A (inplaceOp op (.ref x) (.int i t)) Q E s := by
  have tx := I.type (M := model prog w)
  have nf := no_inp (M := model prog w) (nm := op.info.2) (add := op == .Add) X hd hn
  unfold inplaceOp
  refine wpAny_holding (wpAny_bind (tx.here (wpAny_bind (nf.here ?_))))
  simp only [Bool.false_eq_true, if_false, pure_bind]
  refine wpAny_bind (fore_side X I hc hs hf hr hp hsub fills hi (wpAny_mono q (fun v s' z => ?_) fun _ _ z => z))
  cases v <;> first | exact z.elim | exact wpAny_pure z
end
section
variable {X : Cx} {CX : CXT} {k : Nat} {f g C : Addr} {fd : FuncData} {ps : List Str} {sp : Sp} {E : XK} {op : Operator} {idl : String}
/-- i op o, i a whole number, o an own object -/
def rBackI (C : Addr) (sp : Sp) (E : XK) : R2 := fun x y H Q => ∃ (a dx : Addr) (fs : List (Str × V)) (i : Int), y = .ref a ∧ H a = some (.ins C dx fs) ∧ x = .int i ∧ sp [.ref a, .int i] H Q E
/-- what the class has for an operator from behind -/
structure BackAt (K : PySem.W.Frag) (C f g : Addr) (op : Operator) (idl : String) : Prop where
  first : PySem.W.selfFirst K C = true
  own : PySem.W.findIn K (.ref C) (PySem.dunder op.info.2) = some (some (.ref f))
  back : PySem.W.findIn K (.ref C) (dunderR op.info.2) = some (some (.ref g))
  fn : PySem.W.isFn K (.ref g) = true
  sub : PySem.W.subIn K (.ref C) (.type "int") = some false
  fills : fillsNumberSlot (.type "int") op.info.2 = pure true
  nay : Nay op idl
/-- what the class has for an in-place form -/
structure InAt (K : PySem.W.Frag) (C f : Addr) (op : Operator) : Prop extends OpAt K C f op where
  none_ : ∃ cd, PySem.W.clsIn K C = some cd ∧ ∀ c ∈ cd.mro, PySem.W.findIn K c (dunderI op.info.2) = some none
  fills : fillsNumberSlot (.type "int") op.info.2 = pure true
theorem op_backI (O : BackAt X.K C f g op idl) (F : Gd X.prog X.w X.K X.mg X.base CX k g fd ps sp) (rm : Room k X.A) (gd : X.A.guards = some []) (hb : Binds X.K fd ps []) (hx : Passes CX X E) : OpR X (binaryOp op) (rBackI C sp E) := by
  intro pins s σ H x y v u Q I rx ry h
  obtain ⟨a, dx, fs, i, rfl, ea, rfl, q⟩ := h
  obtain ⟨t, rfl⟩ := rx
  obtain rfl : u = Value.ref a := ry
  obtain ⟨mA, J, _⟩ := ins_get I.hok ea
  obtain ⟨od, J, _⟩ := J.look
  have r2 : Vals [V.ref a, .int i] [Value.ref a, .int i t] := .cons rfl (.cons ⟨t, rfl⟩ .nil)
  have bt := bind_pos (dvs := []) (vs := [V.ref a, .int i]) F hb .nil I.kIn r2 q
  refine back_side I.kIn J O.first O.own O.back O.fn O.sub O.fills O.nay ?_
  refine wpAny_mono (run_g (us := [.ref a, .int i t]) F rm gd hx I bt r2 q) (fun v s' hv => ?_) fun _ _ z => z
  have rv : ∃ z, RelV z v := let ⟨z, _, _, rz, _⟩ := hv; ⟨z, rz⟩
  exact rv.elim fun z rz => SlX.cmpback rz hv
theorem op_inI (O : InAt X.K C f op) (F : Gd X.prog X.w X.K X.mg X.base CX k f fd ps sp) (rm : Room k X.A) (gd : X.A.guards = some []) (hb : Binds X.K fd ps []) (hx : Passes CX X E) : OpR X (inplaceOp op) (rOwnI C sp E) := by
  intro pins s σ H x y v u Q I rx ry h
  obtain ⟨a, dx, fs, i, rfl, ea, rfl, q⟩ := h
  obtain rfl : v = Value.ref a := rx
  obtain ⟨t, rfl⟩ := ry
  obtain ⟨mA, J, _⟩ := ins_get I.hok ea
  obtain ⟨od, J, _⟩ := J.look
  obtain ⟨rc, hr, hp⟩ := O.refl
  obtain ⟨ro, h2⟩ := O.int2
  obtain ⟨cd, hc, hn⟩ := O.none_
  have r2 : Vals [V.ref a, .int i] [Value.ref a, .int i t] := .cons rfl (.cons ⟨t, rfl⟩ .nil)
  have bt := bind_pos (dvs := []) (vs := [V.ref a, .int i]) F hb .nil I.kIn r2 q
  refine inp_side I.kIn J O.first hc hn O.own O.fn hr hp O.sub O.fills h2 ?_
  refine wpAny_mono (run_g (us := [.ref a, .int i t]) F rm gd hx I bt r2 q) (fun v s' hv => ?_) fun _ _ z => z
  have rv : ∃ z, RelV z v := let ⟨z, _, _, rz, _⟩ := hv; ⟨z, rz⟩
  exact rv.elim fun z rz => SlX.cmpback rz hv
/-- ~o, o an own object -/
def rInvO (C : Addr) (sp : Sp) (E : XK) : V → Hp → VK → Prop := fun x H Q => ∃ (a dx : Addr) (fs : List (Str × V)), x = .ref a ∧ H a = some (.ins C dx fs) ∧ sp [.ref a] H Q E
theorem un_inv (O : PySem.W.findIn X.K (.ref C) "__invert__" = some (some (.ref f))) (fn : PySem.W.isFn X.K (.ref f) = true) (F : Gd X.prog X.w X.K X.mg X.base CX k f fd ps sp) (rm : Room k X.A) (gd : X.A.guards = some []) (hb : Binds X.K fd ps []) (hx : Passes CX X E) : UnR X (unaryOp .Invert) (rInvO C sp E) := by
  intro pins s σ H x v Q I rx h
  obtain ⟨a, dx, fs, rfl, ea, q⟩ := h
  obtain rfl : v = Value.ref a := rx
  obtain ⟨mA, J, _⟩ := ins_get I.hok ea
  obtain ⟨od, J, _⟩ := J.look
  obtain ⟨m, fr⟩ := I.fr
  have r2 : Vals [V.ref a] [Value.ref a] := .cons rfl .nil
  have bt := bind_pos (dvs := []) (vs := [V.ref a]) F hb .nil I.kIn r2 q
  exact PySem.W.ksp_inv fr I.ok.mod.kin J O fn (wpAny_mono (run_g (us := [.ref a]) F rm gd hx I bt r2 q) (fun v s' hv => hv) fun _ _ z => z)
theorem w_backO {a dx : Addr} {fs : List (Str × V)} {i : Int} {H : Hp} {Q : VK} (h : H a = some (.ins C dx fs)) (q : sp [.ref a, .int i] H Q E) : rBackI C sp E (.int i) (.ref a) H Q := ⟨a, dx, fs, i, rfl, h, rfl, q⟩
theorem w_invO {a dx : Addr} {fs : List (Str × V)} {H : Hp} {Q : VK} (h : H a = some (.ins C dx fs)) (q : sp [.ref a] H Q E) : rInvO C sp E (.ref a) H Q := ⟨a, dx, fs, rfl, h, q⟩
end
end KG

set_option Elab.async false
set_option linter.all false
set_option maxRecDepth 100000
set_option maxHeartbeats 1000000
/-! KQ: properties and classmethods whose defs are known where nothing is being shown. -/
namespace KG
open PySem PySem.Spec PySem.Calls PyProof.Rows L2
section
variable {X : Cx} {CX : CXT} {k : Nat} {C p g : Addr} {mc : Value} {fd : FuncData} {ps : List Str} {sp : Sp} {E : XK} {o e : Expr} {es : List Expr} {m : Str} {pos apos : Pos} {ta : TE} {t : TA}
/-- o.m, a property -/
theorem pe_gprop (he : PE X o ta) (c : Cls X.K C) (P : PropOf X.K C m p g) (F : Gd X.prog X.w X.K X.mg X.base CX k g fd ps sp) (rm : Room (k + 1) X.A) (gd : X.A.guards = some []) (hb : Binds X.K fd ps []) (hx : Passes CX X.nox E)
    (ab : attributeBase o m X.env (eval o X.env) = eval o X.env := by rfl) : PE X (.Attribute o m pos) (tProp C sp [] E ta) := by
  refine ⟨fun pins s σ H Q I z => attr_of ab (thn (he.run pins s σ H _ I z) fun u s1 z1 => ?_)⟩
  obtain ⟨_, H1, J, ru, a, dx, fs, rfl, ea, q⟩ := z1
  obtain rfl : u = Value.ref a := ru
  obtain ⟨mA, O, _⟩ := ins_get J.hok ea
  obtain ⟨od, O, _⟩ := O.look
  obtain ⟨tail, isP⟩ := P.rec_
  have isC : (PySem.W.clsIn X.K C).isSome = true := let ⟨_, w, _⟩ := PySem.W.any_some c.hd; w ▸ rfl
  have J1 := J.tok (s1.toks + 1)
  have pg := PySem.W.plainGet_of (c.get m)
  refine PySem.W.get_bind J.kIn O pg.1 (PySem.W.findObj_data isC P.at_ P.get P.tak) pg.2 (wpAny_call (PySem.W.prop_get (s := { s1 with toks := s1.toks + 1 }) J.kIn isP ?_))
  have r1 : Vals [V.ref a] [Value.ref a] := .cons rfl .nil
  have bt := bind_pos (dvs := []) (vs := [V.ref a]) F hb .nil J1.kIn r1 q
  refine codeAny_mono (F.go X.A.in1 X.stack { s1 with toks := s1.toks + 1 } H1 ⟨[.ref a], []⟩ _ _ Q E rm.in1 gd J1.env0.in1 bt r1 q) fun out s2 z2 => ?_
  match out, z2 with
  | .error er, z2 => exact (hx pins σ H1 { s1 with toks := s1.toks + 1 } er s2 (J1.wish _) z2).elim
  | .ok (.ret u), z2 =>
    obtain ⟨v, H2, J2, rv, q2⟩ := J1.after z2
    show wpAny _ _ (handedOut u) _ _ _
    rw [PySem.W.handedOut_of (handed_of rv)]
    exact wpAny_pure ⟨v, H2, J2, rv, q2⟩
/-- o.m(e, ..), o the class, m a classmethod -/
theorem pe_gcm {pl : Sem Bool} (he : PE X o ta) (r : ClX.CRead X.K C mc) (c : ClX.CMet X.K C mc m p g) (F : Gd X.prog X.w X.K X.mg X.base CX k g fd ps sp) (rm : Room k X.A) (gd : X.A.guards = some []) (hb : Binds X.K fd ps []) (hx : Passes CX X E) (ha : PA X (e :: es) t)
    (hst : starEach (e :: es) X.env = (false, eval e X.env) :: starEach es X.env := by rfl) (hpl : (backTo pos (starEach es X.env)).any (·.1) = false := by rfl)
    (ht : eval (.Call (.Attribute o m apos) (e :: es) [] pos) X.env = (do
      let w ← eval o X.env
      standAt apos.atName
      let (g, a) ← holding [w] (getMethod w m pl)
      callWith pos g a (backTo pos (starEach (e :: es) X.env)) (backToKw pos (keywordEach [] X.env))) := by rfl) :
    PE X (.Call (.Attribute o m apos) (e :: es) [] pos) (ClX.tCMeth C sp E ta t) := by
  refine ⟨fun pins s σ H Q I z => PySem.W.methodCall_KW (pl := pl) (thn (he.run pins s σ H _ I z) fun u s1 z1 => ?_) ht⟩
  obtain ⟨_, H1, J, ru, rfl, q⟩ := z1
  obtain rfl : u = Value.ref C := ru
  refine ClX.getmethcm_ok J r c fun s2 J2 => ClX.callwith_cm J2 (ClX.base_none J (Nat.le_refl _)) c.fi (thn (ha.run pos _ s2 σ H1 _ J2 q) fun us s3 z3 => ?_) hst hpl
  obtain ⟨vs, H2, J3, rv, q2⟩ := z3
  have r1 : Vals (V.ref C :: vs) (Value.ref C :: us) := .cons rfl rv
  have bt := bind_pos (dvs := []) (vs := V.ref C :: vs) F hb .nil J3.kIn r1 (by rw [List.append_nil]; exact q2)
  refine ⟨⟨ClX.pin_at J3, J3.kIn⟩, ?_⟩
  have run : wpAny (model X.prog X.w) X.A (call (.ref s1.heap.objs.size) us) (EP X ((s1.heap.objs.size, PySem.W.methodObj (.ref g) (.ref C)) :: pins) σ Q) X.xe s3 := by
    refine wpAny_call (PySem.W.method_call (ClX.pin_at J3) (codeAny_mono (F.go X.A X.stack s3 H2 ⟨.ref C :: us, []⟩ _ _ _ E rm gd J3.env0 bt (by rw [List.append_nil]; exact r1) q2) fun out s4 z4 => ?_))
    match out, z4 with
    | .error er, z4 => exact hx _ σ H2 s3 er s4 J3 z4
    | .ok (.ret v), z4 => exact J3.after z4
  exact thn run fun _ _ y => ClX.unpinE y
/-- x(e, ..), x a place that holds the class -/
def tMakeV (C : Addr) (sp : Sp) (dvs : List V) (E : XK) (n : Nat) (ta : TA) : TE := fun σ H Q => σ[n]? = some (some (.ref C)) ∧ ta σ H fun vs H1 => Make C sp (fun z => z :: (vs ++ dvs)) E H1 Q
theorem pe_gmakeV {f : Addr} {x : Str} {n : Nat} {ds : List Value} {dvs : List V} (M : Mk X.K C f) (F : Gd X.prog X.w X.K X.mg X.base CX k f fd ps sp) (rm : Room (k + 1) X.A) (gd : X.A.guards = some []) (hv : PE X (.Name x apos) (tVar n)) (hb : Binds X.K fd ps ds) (hd : Vals dvs ds) (hx : Passes CX X E) (ha : PA X (e :: es) t)
    (hst : starEach (e :: es) X.env = (false, eval e X.env) :: starEach es X.env := by rfl) (hpl : (backTo pos (starEach es X.env)).any (·.1) = false := by rfl) : PE X (.Call (.Name x apos) (e :: es) [] pos) (tMakeV C sp dvs E n t) := by
  refine ⟨fun pins s σ H Q I z => ?_⟩
  obtain ⟨ec, q⟩ := z
  refine wpAny_Call_Name_kw (thn (hv.run pins s σ H (fun v H' => v = .ref C ∧ t σ H' fun vs H1 => Make C sp (fun z => z :: (vs ++ dvs)) E H1 Q) I ⟨_, ec, rfl, q⟩) fun u s1 z1 => ?_)
  obtain ⟨_, H1, J, ru, rfl, q1⟩ := z1
  obtain rfl : u = Value.ref C := ru
  refine PySem.W.callWith_K (h₀ := X.base) I.ok.mod.kin M.kp (thn (ha.run pos pins s1 σ H1 _ J q1) fun us s2 z2 => ?_) hst hpl
  obtain ⟨vs, H2, J2, rv, q2⟩ := z2
  have all : ∀ y : Addr, Vals (V.ref y :: vs ++ dvs) (Value.ref y :: us ++ ds) := fun y => .cons rfl (rv.append hd)
  have many : ∀ y : Addr, (Value.ref y :: us ++ ds).length = ps.length := fun y => by
    rw [← (all y).length, ← F.len _ _ _ _ (q2 (s2.heap.objs.size + 1) s2.heap.objs.size (J2.hok.fresh (Nat.le_succ _)) (J2.hok.fresh (Nat.le_refl _)) (Nat.ne_of_lt (Nat.lt_succ_self _)))]
    rfl
  exact ⟨J2.kIn, run_gmake (fun y => y :: us ++ ds) (fun y => y :: vs ++ dvs) M F rm gd (fun s y KX => hb s (.ref y :: us) KX (many y)) all hx J2 q2⟩
end
end KG

set_option Elab.async false
set_option linter.all false
set_option maxRecDepth 100000
set_option maxHeartbeats 1000000
/-! KJ: own operators beside values of any kind. -/
namespace KG
open PySem PySem.Spec PySem.Calls PyProof.Rows L2
/-- the kinds of values that stand beside own objects -/
inductive TyD (H : Hp) : V → String → Prop
  | non : TyD H .non "NoneType"
  | bl (b : Bool) : TyD H (.bl b) "bool"
  | int (i : Int) : TyD H (.int i) "int"
  | str (z : Str) : TyD H (.str z) "str"
  | tup {a : Addr} {xs : List V} : H a = some (.tup xs) → TyD H (.ref a) "tuple"
  | lst {a : Addr} {xs : List V} : H a = some (.lst xs) → TyD H (.ref a) "list"
  | dct {a : Addr} {kvs : List (L2.Key × V)} : H a = some (.dK kvs) → TyD H (.ref a) "dict"
def tyNames : List String := ["NoneType", "bool", "int", "str", "tuple", "list", "dict"]
theorem TyD.mem {H : Hp} {x : V} {T : String} (h : TyD H x T) : T ∈ tyNames := by
  cases h <;> decide
theorem TyD.is {X : Cx} {pins : List (Addr × Obj)} {σ : L2.St} {s : Shared} {H : Hp} {x : V} {T : String} {u : Value} (I : Inv X pins σ H s) (h : TyD H x T) (r : L2.RelV x u) : s.TypeIs u T := by
  cases h with
  | non => cases r; exact typeIs_none s
  | bl b => cases r; exact PySem.typeIs_bool s b
  | int i => obtain ⟨t, rfl⟩ := r; exact typeIs_int s i t
  | str z => obtain ⟨t, rfl⟩ := r; exact typeIs_str s z t
  | @tup a xs e =>
    obtain rfl : u = Value.ref a := r
    obtain ⟨_, its, rv, ⟨o, ho, hc, n, hd⟩⟩ := I.hok a _ e
    exact ⟨o, ho, hc⟩
  | @lst a xs e =>
    obtain rfl : u = Value.ref a := r
    obtain ⟨us, m, rv, hg, _⟩ := I.lst e
    exact ⟨_, hg, rfl⟩
  | @dct a kvs e =>
    obtain rfl : u = Value.ref a := r
    obtain ⟨_, ns, vs, kv, D⟩ := I.hok a _ e
    exact D.typeIs
theorem fills_of (nm : String) (hn : nm = "and" ∨ nm = "or" ∨ nm = "xor" ∨ nm = "lshift" ∨ nm = "rshift") : ∀ T ∈ tyNames, ∃ b, fillsNumberSlot (.type T) nm = pure b := by
  rcases hn with rfl | rfl | rfl | rfl | rfl <;> (intro T h; simp only [tyNames, List.mem_cons, List.not_mem_nil, or_false] at h; rcases h with rfl | rfl | rfl | rfl | rfl | rfl | rfl <;> exact ⟨_, rfl⟩)
theorem refl_of (nm : String) (hn : nm = "and" ∨ nm = "or" ∨ nm = "xor" ∨ nm = "lshift" ∨ nm = "rshift") : ∀ T ∈ tyNames, ∃ r, typeLookup (.type T) (dunderR nm) = pure r := by
  rcases hn with rfl | rfl | rfl | rfl | rfl <;> (intro T h; simp only [tyNames, List.mem_cons, List.not_mem_nil, or_false] at h; rcases h with rfl | rfl | rfl | rfl | rfl | rfl | rfl <;> exact ⟨_, rfl⟩)
def opOk (op : Operator) : Prop := op.info.2 = "and" ∨ op.info.2 = "or" ∨ op.info.2 = "xor" ∨ op.info.2 = "lshift" ∨ op.info.2 = "rshift"
/-- what a class has for an operator, whatever stands beside -/
structure OpD (K : PySem.W.Frag) (C f : Addr) (op : Operator) : Prop where
  first : PySem.W.selfFirst K C = true
  own : PySem.W.findIn K (.ref C) (PySem.dunder op.info.2) = some (some (.ref f))
  fn : PySem.W.isFn K (.ref f) = true
  refl : ∃ rc, PySem.W.findIn K (.ref C) (dunderR op.info.2) = some rc ∧ (rc = none ∨ ∃ g : Addr, rc = some (.ref g))
  sub : ∀ T ∈ tyNames, PySem.W.subIn K (.type T) (.ref C) = some false
  ok : opOk op
section
variable {prog : Program} {w : World} {A : Around} {E : Value → Shared → Prop} {s : Shared} {K : PySem.W.Frag} {x C dx f g : Addr} {od : Option Obj} {op : Operator} {u : Value} {T : String}
/-- o op v, o an own object whose class has the operator, v of a built-in kind -/
theorem fore_any {Q : Value → Shared → Prop} (X : K.In s.heap) (I : PySem.W.InstAt s.heap x (PySem.W.instObj C dx) C od) (O : OpD K C f op) (tu : s.TypeIs u T) (hT : T ∈ tyNames)
    (q : wpAny (model prog w) A (call (.ref f) [.ref x, u]) (PySem.W.CmpBack Q) E s) : wpAny (model prog w) A (binaryOp op (.ref x) u) Q E s := by
  obtain ⟨cd, rest, ec, em⟩ := PySem.W.ksp_first O.first
  obtain ⟨rc, hr, hp⟩ := O.refl
  have fl := PySem.W.fills_K (M := model prog w) X ec em O.own
  have tx := I.type (M := model prog w)
  have tr := PySem.W.ksp_try (M := model prog w) (A := A) (E := E) (Q := Q) X I O.own O.fn q
  have py := PySem.W.ksp_inPy (M := model prog w) X O.own hr hp
  have sb := PySem.W.looks_subIn (M := model prog w) X (O.sub T hT)
  obtain ⟨b, fills⟩ := fills_of _ O.ok T hT
  obtain ⟨ro, lr⟩ := refl_of _ O.ok T hT
  rcases ho : op.info with ⟨sym, nm⟩
  rw [ho] at fl tr py fills lr
  simp only at fl tr py fills lr
  have ne : (Value.ref C == Value.type T) = false := rfl
  have np : numberSlotInPython (.type T) nm = pure false := rfl
  simp only [binaryOp, ho]
  refine wpAny_holding (wpAny_bind ?_)
  unfold binaryOp1
  refine wpAny_bind (tx.here (wpAny_bind (wpAny_typeOf tu (wpAny_bind (fl.here ?_)))))
  simp only [ne, Bool.false_eq_true, if_false]
  refine wpAny_bind (wpAny_of_eq fills ?_)
  cases b with
  | false =>
    simp only [Bool.and_false, Bool.false_and, Bool.false_eq_true, if_false, pure_bind, if_true]
    refine wpAny_bind (wpAny_mono tr (fun r s' z => ?_) fun _ _ z => z)
    obtain ⟨v, rfl, z⟩ := z
    exact wpAny_pure (wpAny_pure z)
  | true =>
    simp only [Bool.and_self, if_true]
    refine wpAny_bind (sb.here ?_)
    simp only [Bool.false_eq_true, if_false, pure_bind, Bool.not_false, Bool.and_self, if_true]
    refine wpAny_bind (py.here ?_)
    simp only [if_true, np, pure_bind, Bool.not_false]
    refine wpAny_bind (wpAny_of_eq lr ?_)
    refine wpAny_bind (wpAny_mono tr (fun r s' z => ?_) fun _ _ z => z)
    obtain ⟨v, rfl, z⟩ := z
    exact wpAny_pure (wpAny_pure z)
/-- how values of the kinds that have number slots look -/
def Shape (s : Shared) (u : Value) (T : String) : Prop := (T = "bool" → ∃ b, u = .bool b) ∧ (T = "int" → ∃ i t, u = .int i t) ∧ (T = "dict" → ∃ a o, u = .ref a ∧ s.heap.get? a = some o ∧ o.cls = .type "dict")
/-- what a kind's own operator says beside an own object, where it has one -/
def NayD (K : PySem.W.Frag) (C : Addr) (op : Operator) : Prop := ∀ (prog : Program) (w : World) (A : Around) (E : Value → Shared → Prop) (s : Shared) (u : Value) (T : String) (x dx : Addr) (od : Option Obj) (Q : Option Value → Shared → Prop), K.In s.heap → PySem.W.InstAt s.heap x (PySem.W.instObj C dx) C od → s.TypeIs u T → T ∈ tyNames → fillsNumberSlot (.type T) op.info.2 = pure true → Shape s u T → Q none s → wpAny (model prog w) A (tryMethod u (PySem.dunder op.info.2) (.ref x)) Q E s
/-- what a class has for an operator from behind -/
structure BackD (K : PySem.W.Frag) (C f g : Addr) (op : Operator) : Prop where
  first : PySem.W.selfFirst K C = true
  own : PySem.W.findIn K (.ref C) (PySem.dunder op.info.2) = some (some (.ref f))
  back : PySem.W.findIn K (.ref C) (dunderR op.info.2) = some (some (.ref g))
  fn : PySem.W.isFn K (.ref g) = true
  sub : ∀ T ∈ tyNames, PySem.W.subIn K (.ref C) (.type T) = some false
  ok : opOk op
  nay : NayD K C op
theorem back_any {Q : Value → Shared → Prop} (X : K.In s.heap) (I : PySem.W.InstAt s.heap x (PySem.W.instObj C dx) C od) (O : BackD K C f g op) (tu : s.TypeIs u T) (hT : T ∈ tyNames) (hu : Shape s u T)
    (q : wpAny (model prog w) A (call (.ref g) [.ref x, u]) (PySem.W.CmpBack Q) E s) : wpAny (model prog w) A (binaryOp op u (.ref x)) Q E s := by
  obtain ⟨cd, rest, ec, em⟩ := PySem.W.ksp_first O.first
  have fl := PySem.W.fills_K (M := model prog w) X ec em O.own
  have tx := I.type (M := model prog w)
  have tr := PySem.W.ksp_try (M := model prog w) (A := A) (E := E) X I O.back O.fn q
  obtain ⟨b, fills⟩ := fills_of _ O.ok T hT
  have tl : b = true → ∀ Q' : Option Value → Shared → Prop, Q' none s → wpAny (model prog w) A (tryMethod u (PySem.dunder op.info.2) (.ref x)) Q' E s := fun hb Q' z => O.nay prog w A E s u T x dx od Q' X I tu hT (hb ▸ fills) hu z
  have sb := PySem.W.looks_subIn (M := model prog w) X (O.sub T hT)
  rcases ho : op.info with ⟨sym, nm⟩
  rw [ho] at fl tr tl fills
  simp only at fl tr tl fills
  have ne : (Value.type T == Value.ref C) = false := rfl
  have np : numberSlotInPython (.type T) nm = pure false := rfl
  simp only [binaryOp, ho]
  refine wpAny_holding (wpAny_bind ?_)
  unfold binaryOp1
  refine wpAny_bind (wpAny_typeOf tu (wpAny_bind (tx.here (wpAny_bind (wpAny_of_eq fills ?_)))))
  simp only [ne, Bool.false_eq_true, if_false]
  refine wpAny_bind (fl.here ?_)
  cases b with
  | false =>
    simp only [Bool.and_true, Bool.false_and, Bool.false_eq_true, if_false, pure_bind, if_true, Bool.not_false, Bool.and_self]
    refine wpAny_bind (wpAny_mono tr (fun r s' z => ?_) fun _ _ z => z)
    obtain ⟨v, rfl, z⟩ := z
    exact wpAny_bind (wpAny_rule (wpAny_pure (wpAny_pure z)))
  | true =>
    simp only [Bool.and_self, if_true]
    refine wpAny_bind (sb.here ?_)
    simp only [Bool.false_eq_true, if_false, pure_bind, Bool.not_false, Bool.and_self, if_true, np]
    refine wpAny_bind (tl rfl _ ?_)
    refine wpAny_bind (wpAny_mono tr (fun r s' z => ?_) fun _ _ z => z)
    obtain ⟨v, rfl, z⟩ := z
    exact wpAny_bind (wpAny_rule (wpAny_pure (wpAny_pure z)))
end
theorem meetsB_and (b : Bool) (x C dx : Addr) : Meets (Builtin.«bool.__and__» ⟨[.bool b, .ref x], []⟩) (fun _ R s => s.heap.get? x = some (PySem.W.instObj C dx) ∧ R (.ok (.ret Value.notImplemented)) s) :=
  .of_wp fun prog w A R s h => by
    obtain ⟨hp, g, d, tk, os⟩ := s
    obtain ⟨hl, h⟩ := h
    unfold Builtin.«bool.__and__»
    wp_walk using wpAny_loadPart' hl
    exact ⟨_, rfl, h⟩
theorem nayB_and (prog : Program) (w : World) (A : Around) (E : Value → Shared → Prop) (s : Shared) (b : Bool) (x C dx : Addr) (Q : Option Value → Shared → Prop) (ho : s.heap.get? x = some (PySem.W.instObj C dx)) (q : Q none s) :
    wpAny (model prog w) A (tryMethod (.bool b) (PySem.dunder "and") (.ref x)) Q E s :=
  wpAny_tryMethod_declines (name := PySem.dunder "and") (PySem.typeIs_bool s b) F.slot_bool_and (call_meets F.slot_bool_and (PySem.typeIs_bool s b) F.entry_bool_and (F.args_bool_and_2 _ _) (meetsB_and b x C dx) ⟨ho, rfl, q⟩)
theorem meetsB_or (b : Bool) (x C dx : Addr) : Meets (Builtin.«bool.__or__» ⟨[.bool b, .ref x], []⟩) (fun _ R s => s.heap.get? x = some (PySem.W.instObj C dx) ∧ R (.ok (.ret Value.notImplemented)) s) :=
  .of_wp fun prog w A R s h => by
    obtain ⟨hp, g, d, tk, os⟩ := s
    obtain ⟨hl, h⟩ := h
    unfold Builtin.«bool.__or__»
    wp_walk using wpAny_loadPart' hl
    exact ⟨_, rfl, h⟩
theorem nayB_or (prog : Program) (w : World) (A : Around) (E : Value → Shared → Prop) (s : Shared) (b : Bool) (x C dx : Addr) (Q : Option Value → Shared → Prop) (ho : s.heap.get? x = some (PySem.W.instObj C dx)) (q : Q none s) :
    wpAny (model prog w) A (tryMethod (.bool b) (PySem.dunder "or") (.ref x)) Q E s :=
  wpAny_tryMethod_declines (name := PySem.dunder "or") (PySem.typeIs_bool s b) F.slot_bool_or (call_meets F.slot_bool_or (PySem.typeIs_bool s b) F.entry_bool_or (F.args_bool_or_2 _ _) (meetsB_or b x C dx) ⟨ho, rfl, q⟩)
theorem meetsB_xor (b : Bool) (x C dx : Addr) : Meets (Builtin.«bool.__xor__» ⟨[.bool b, .ref x], []⟩) (fun _ R s => s.heap.get? x = some (PySem.W.instObj C dx) ∧ R (.ok (.ret Value.notImplemented)) s) :=
  .of_wp fun prog w A R s h => by
    obtain ⟨hp, g, d, tk, os⟩ := s
    obtain ⟨hl, h⟩ := h
    unfold Builtin.«bool.__xor__»
    wp_walk using wpAny_loadPart' hl
    exact ⟨_, rfl, h⟩
theorem nayB_xor (prog : Program) (w : World) (A : Around) (E : Value → Shared → Prop) (s : Shared) (b : Bool) (x C dx : Addr) (Q : Option Value → Shared → Prop) (ho : s.heap.get? x = some (PySem.W.instObj C dx)) (q : Q none s) :
    wpAny (model prog w) A (tryMethod (.bool b) (PySem.dunder "xor") (.ref x)) Q E s :=
  wpAny_tryMethod_declines (name := PySem.dunder "xor") (PySem.typeIs_bool s b) F.slot_bool_xor (call_meets F.slot_bool_xor (PySem.typeIs_bool s b) F.entry_bool_xor (F.args_bool_xor_2 _ _) (meetsB_xor b x C dx) ⟨ho, rfl, q⟩)
theorem nayD_or {prog : Program} {w : World} {A : Around} {E : Value → Shared → Prop} {s : Shared} {K : PySem.W.Frag} {C dx x a : Addr} {od : Option Obj} {o : Obj} {Q : Option Value → Shared → Prop} (X : K.In s.heap) (I : PySem.W.InstAt s.heap x (PySem.W.instObj C dx) C od)
    (sub : PySem.W.subIn K (.ref C) (.type "dict") = some false) (ho : s.heap.get? a = some o) (hc : o.cls = .type "dict") (q : Q none s) : wpAny (model prog w) A (tryMethod (.ref a) (PySem.dunder "or") (.ref x)) Q E s := by
  have ty : s.TypeIs (.ref a) "dict" := ⟨o, ho, hc⟩
  refine wpAny_tryMethod_declines (name := PySem.dunder "or") ty F.slot_dict_or ?_
  refine wpAny_call (codeAny_call_builtin F.slot_dict_or.plain F.entry_dict_or (F.slot_dict_or.check _ _ _ _ _ _ _ _ ty (F.args_dict_or_2 _ _) ?_))
  have tx := I.type (M := model prog w)
  have sb := PySem.W.looks_subIn (M := model prog w) X sub
  refine wpAny_bind (wpAny_of_eq (a := (Value.ref a, Value.ref x)) rfl ?_)
  change wpAny _ _ (Bind.bind (isInstance (.ref a) (.type "dict") <&&> isInstance (.ref x) (.type "dict")) _) _ _ _
  refine wpAny_bind ?_
  unfold andM
  refine wpAny_bind (wpAny_isInstance (b := true) ty rfl ?_)
  simp only [toBool, if_true]
  unfold isInstance
  refine wpAny_bind (tx.here (sb.here ?_))
  simp only [Bool.not_false, if_true]
  refine wpAny_bind (wpAny_rule ?_)
  exact wpAny_pure ⟨rfl, q⟩
theorem shape_of {X : Cx} {pins : List (Addr × Obj)} {σ : L2.St} {s : Shared} {H : Hp} {x : V} {T : String} {u : Value} (I : Inv X pins σ H s) (h : TyD H x T) (r : L2.RelV x u) : Shape s u T := by
  cases h with
  | non => exact ⟨nofun, nofun, nofun⟩
  | bl b => cases r; exact ⟨fun _ => ⟨b, rfl⟩, nofun, nofun⟩
  | int i => obtain ⟨t, rfl⟩ := r; exact ⟨nofun, fun _ => ⟨i, t, rfl⟩, nofun⟩
  | str z => exact ⟨nofun, nofun, nofun⟩
  | tup e => exact ⟨nofun, nofun, nofun⟩
  | lst e => exact ⟨nofun, nofun, nofun⟩
  | @dct a kvs e =>
    obtain rfl : u = Value.ref a := r
    obtain ⟨_, ns, vs, kv, D⟩ := I.hok a _ e
    obtain ⟨o, h1, h2⟩ := D.typeIs (s := s)
    exact ⟨nofun, nofun, fun _ => ⟨a, o, rfl, h1, h2⟩⟩
theorem pure_ff {p : Prop} (h : (pure false : Sem Bool) = pure true) : p := by cases h
theorem nayD_of {K : PySem.W.Frag} {C : Addr} {op : Operator} {nm idl : String} (ho : op.info.2 = nm) (hn : nm = "and" ∨ nm = "xor") (hb : ∀ (prog : Program) (w : World) (A : Around) (E : Value → Shared → Prop) (s : Shared) (b : Bool) (x C dx : Addr) (Q : Option Value → Shared → Prop), s.heap.get? x = some (PySem.W.instObj C dx) → Q none s → wpAny (model prog w) A (tryMethod (.bool b) (PySem.dunder nm) (.ref x)) Q E s)
    (hi : Nay op idl) : NayD K C op := by
  intro prog w A E s u T x dx od Q X I ty hT fills sh q
  have h1 := hi prog w A E s
  rw [ho] at fills h1 ⊢
  simp only [tyNames, List.mem_cons, List.not_mem_nil, or_false] at hT
  rcases hT with rfl | rfl | rfl | rfl | rfl | rfl | rfl
  · rcases hn with rfl | rfl <;> exact pure_ff fills
  · obtain ⟨b, rfl⟩ := sh.1 rfl
    exact hb prog w A E s b x C dx Q I.at_ q
  · obtain ⟨i, t, rfl⟩ := sh.2.1 rfl
    exact h1 i t x C dx Q I.at_ q
  all_goals rcases hn with rfl | rfl <;> exact pure_ff fills
theorem nayD_and {K : PySem.W.Frag} {C : Addr} : NayD K C .BitAnd := nayD_of (nm := "and") rfl (.inl rfl) nayB_and nay_and
theorem nayD_xor {K : PySem.W.Frag} {C : Addr} : NayD K C .BitXor := nayD_of (nm := "xor") rfl (.inr rfl) nayB_xor nay_xor
theorem nayD_bor {K : PySem.W.Frag} {C : Addr} (sub : PySem.W.subIn K (.ref C) (.type "dict") = some false) : NayD K C .BitOr := by
  intro prog w A E s u T x dx od Q X I ty hT fills sh q
  have h1 := nay_or prog w A E s
  simp only [tyNames, List.mem_cons, List.not_mem_nil, or_false] at hT
  rcases hT with rfl | rfl | rfl | rfl | rfl | rfl | rfl
  · exact pure_ff fills
  · obtain ⟨b, rfl⟩ := sh.1 rfl
    exact nayB_or prog w A E s b x C dx Q I.at_ q
  · obtain ⟨i, t, rfl⟩ := sh.2.1 rfl
    exact h1 i t x C dx Q I.at_ q
  · exact pure_ff fills
  · exact pure_ff fills
  · exact pure_ff fills
  · obtain ⟨a, o, rfl, h2, h3⟩ := sh.2.2 rfl
    exact nayD_or X I sub h2 h3 q
section
variable {X : Cx} {CX : CXT} {k : Nat} {f g C : Addr} {fd : FuncData} {ps : List Str} {sp : Sp} {E : XK} {op : Operator}
/-- o op v, o an own object -/
def rOwnD (C : Addr) (sp : Sp) (E : XK) : R2 := fun x y H Q => ∃ (a dx : Addr) (fs : List (Str × V)) (T : String), x = .ref a ∧ H a = some (.ins C dx fs) ∧ TyD H y T ∧ sp [.ref a, y] H Q E
/-- v op o, o an own object -/
def rBackD (C : Addr) (sp : Sp) (E : XK) : R2 := fun x y H Q => ∃ (a dx : Addr) (fs : List (Str × V)) (T : String), y = .ref a ∧ H a = some (.ins C dx fs) ∧ TyD H x T ∧ sp [.ref a, x] H Q E
theorem op_ownD (O : OpD X.K C f op) (F : Gd X.prog X.w X.K X.mg X.base CX k f fd ps sp) (rm : Room k X.A) (gd : X.A.guards = some []) (hb : Binds X.K fd ps []) (hx : Passes CX X E) : OpR X (binaryOp op) (rOwnD C sp E) := by
  intro pins s σ H x y v u Q I rx ry h
  obtain ⟨a, dx, fs, T, rfl, ea, ty, q⟩ := h
  obtain rfl : v = Value.ref a := rx
  obtain ⟨mA, J, _⟩ := ins_get I.hok ea
  obtain ⟨od, J, _⟩ := J.look
  have r2 : Vals [V.ref a, y] [Value.ref a, u] := .cons rfl (.cons ry .nil)
  have bt := bind_pos (dvs := []) (vs := [V.ref a, y]) F hb .nil I.kIn r2 q
  refine fore_any I.kIn J O (ty.is I ry) ty.mem ?_
  refine wpAny_mono (run_g (us := [.ref a, u]) F rm gd hx I bt r2 q) (fun v s' hv => ?_) fun _ _ z => z
  have rv : ∃ z, RelV z v := let ⟨z, _, _, rz, _⟩ := hv; ⟨z, rz⟩
  exact rv.elim fun z rz => SlX.cmpback rz hv
theorem op_backD (O : BackD X.K C f g op) (F : Gd X.prog X.w X.K X.mg X.base CX k g fd ps sp) (rm : Room k X.A) (gd : X.A.guards = some []) (hb : Binds X.K fd ps []) (hx : Passes CX X E) : OpR X (binaryOp op) (rBackD C sp E) := by
  intro pins s σ H x y v u Q I rx ry h
  obtain ⟨a, dx, fs, T, rfl, ea, ty, q⟩ := h
  obtain rfl : u = Value.ref a := ry
  obtain ⟨mA, J, _⟩ := ins_get I.hok ea
  obtain ⟨od, J, _⟩ := J.look
  have r2 : Vals [V.ref a, x] [Value.ref a, v] := .cons rfl (.cons rx .nil)
  have bt := bind_pos (dvs := []) (vs := [V.ref a, x]) F hb .nil I.kIn r2 q
  refine back_any I.kIn J O (ty.is I rx) ty.mem (shape_of I ty rx) ?_
  refine wpAny_mono (run_g (us := [.ref a, v]) F rm gd hx I bt r2 q) (fun v s' hv => ?_) fun _ _ z => z
  have rv : ∃ z, RelV z v := let ⟨z, _, _, rz, _⟩ := hv; ⟨z, rz⟩
  exact rv.elim fun z rz => SlX.cmpback rz hv
theorem w_ownD {a dx : Addr} {fs : List (Str × V)} {y : V} {T : String} {H : Hp} {Q : VK} (h : H a = some (.ins C dx fs)) (ty : TyD H y T) (q : sp [.ref a, y] H Q E) : rOwnD C sp E (.ref a) y H Q := ⟨a, dx, fs, T, rfl, h, ty, q⟩
theorem w_backD {a dx : Addr} {fs : List (Str × V)} {y : V} {T : String} {H : Hp} {Q : VK} (h : H a = some (.ins C dx fs)) (ty : TyD H y T) (q : sp [.ref a, y] H Q E) : rBackD C sp E y (.ref a) H Q := ⟨a, dx, fs, T, rfl, h, ty, q⟩
end
end KG

set_option Elab.async false
set_option linter.all false
set_option maxRecDepth 100000
set_option maxHeartbeats 400000
/-! KN: the steps of blends as functions of words: kept, flipped, moved; what the normal form of each makes. -/
namespace KG
theorem kN_zero {w : Nat} {s : Int} : kN w s 0 = 0 := Nat.zero_and _
theorem sN_ne {w : Nat} {s : Int} {k : Nat} (h : kN w s k ≠ 0) : sN w s k = s := if_neg h
theorem kN_kN {w : Nat} {s : Int} {k : Nat} : kN w s (kN w s k) = kN w s k := by
  unfold kN
  rw [Nat.and_assoc, Nat.and_self]
/-- of kept bits that have a source some stay kept -/
theorem kN_and {w : Nat} {s : Int} {k m : Nat} : kN w (sN w s k) (kN w s k &&& m) = kN w s k &&& m := by
  by_cases h : kN w s k = 0
  · rw [h, Nat.zero_and, kN_zero]
  · rw [sN_ne h]
    unfold kN
    rw [Nat.and_assoc, Nat.and_assoc, Nat.and_comm m, Nat.and_assoc, ← Nat.and_assoc (gN _ _ _) (gN _ _ _), Nat.and_self, Nat.and_comm _ m]
theorem kN_self {w : Nat} {s : Int} {k : Nat} : kN w (sN w s k) (kN w s k) = kN w s k := by
  by_cases h : kN w s k = 0
  · rw [h, kN_zero]
  · rw [sN_ne h, kN_kN]
theorem FN_any {w : Nat} {s : Int} {k f v m : Nat} (h : ∀ j, m.testBit j = true → (kN w s k).testBit j = true) : FN w (sN w s k) m f v = FN w s m f v := by
  by_cases z : kN w s k = 0
  · have : m = 0 := Nat.eq_of_testBit_eq fun j => by
      cases e : m.testBit j with
      | false => rw [Nat.zero_testBit]
      | true => have q := h j e; rw [z, Nat.zero_testBit] at q; cases q
    subst this
    unfold FN
    rw [Nat.and_zero, Nat.and_zero]
  · rw [sN_ne z]
theorem kN_sub_full {w : Nat} {s : Int} {k j : Nat} (h : (kN w s k).testBit j = true) : j < w := by
  rw [kN_bit] at h
  simp only [Bool.and_eq_true, decide_eq_true_eq] at h
  exact h.2.1.1
theorem st_and {w : Nat} {s : Int} {k f n v : Nat} : FN w (sN w s k) (kN w (sN w s k) (kN w s k &&& n)) (f &&& n) v = FN w s (kN w s k) f v &&& n := by
  rw [kN_and, FN_any (fun j h => by rw [Nat.testBit_and, Bool.and_eq_true] at h; exact h.1)]
  unfold FN
  refine Nat.eq_of_testBit_eq fun j => ?_
  simp only [Nat.testBit_xor, Nat.testBit_and]
  cases (gN w s v).testBit j <;> cases (kN w s k).testBit j <;> cases n.testBit j <;> cases f.testBit j <;> rfl
theorem st_or {w : Nat} {s : Int} {k f n v : Nat} : FN w (sN w s k) (kN w (sN w s k) (kN w s k &&& (n ^^^ fullN w))) (f ||| n) v = FN w s (kN w s k) f v ||| n := by
  rw [kN_and, FN_any (fun j h => by rw [Nat.testBit_and, Bool.and_eq_true] at h; exact h.1)]
  unfold FN
  refine Nat.eq_of_testBit_eq fun j => ?_
  simp only [Nat.testBit_xor, Nat.testBit_and, Nat.testBit_or, full_bit]
  cases e : (kN w s k).testBit j with
  | false => cases n.testBit j <;> cases f.testBit j <;> simp
  | true =>
    rw [decide_eq_true (kN_sub_full e)]
    cases (gN w s v).testBit j <;> cases n.testBit j <;> cases f.testBit j <;> rfl
theorem st_xor {w : Nat} {s : Int} {k f n v : Nat} : FN w (sN w s k) (kN w (sN w s k) (kN w s k)) (f ^^^ n) v = FN w s (kN w s k) f v ^^^ n := by
  rw [kN_self, FN_any (fun j h => h)]
  unfold FN
  rw [Nat.xor_assoc]
theorem st_begin {w : Nat} {s : Int} {k f v : Nat} (hv : v < 2 ^ w) : FN w s (kN w s k) f v = (gN w s v &&& k) ^^^ f := by
  unfold FN
  congr 1
  refine Nat.eq_of_testBit_eq fun j => ?_
  rw [Nat.testBit_and, Nat.testBit_and, kN_bit, gN_bit hv]
  cases h1 : decide (j < w) <;> cases h2 : decide (s ≤ (j : Int)) <;> cases h3 : k.testBit j <;> simp
  intro h
  have : ((j : Int) - s).toNat < w := by
    by_cases q : ((j : Int) - s).toNat < w
    · exact q
    · rw [Nat.testBit_lt_two_pow (Nat.lt_of_lt_of_le hv (Nat.pow_le_pow_right (by decide) (by omega)))] at h
      cases h
  exact this
theorem gN_and {w : Nat} {s : Int} {a b : Nat} (ha : a < 2 ^ w) (hb : b < 2 ^ w) : gN w s (a &&& b) = gN w s a &&& gN w s b := by
  refine Nat.eq_of_testBit_eq fun j => ?_
  rw [Nat.testBit_and, gN_bit (Nat.and_lt_two_pow _ hb), gN_bit ha, gN_bit hb, Nat.testBit_and]
  cases decide (j < w) <;> cases decide (s ≤ (j : Int)) <;> simp
theorem gN_keep {w : Nat} {t : Int} {x : Nat} (hx : x < 2 ^ w) : gN w (sN w t (fullN w)) x &&& kN w t (fullN w) = gN w t x := by
  have e : gN w t x &&& kN w t (fullN w) = gN w t x := by
    have q := st_begin (w := w) (s := t) (k := fullN w) (f := 0) hx
    unfold FN at q
    rw [Nat.xor_zero, Nat.xor_zero] at q
    rw [q]
    refine Nat.eq_of_testBit_eq fun j => ?_
    rw [Nat.testBit_and, full_bit, gN_bit hx]
    cases decide (j < w) <;> simp
  by_cases z : kN w t (fullN w) = 0
  · rw [z, Nat.and_zero] at e
    rw [z, Nat.and_zero, e]
  · rw [sN_ne z, e]
/-- the shift of what is moved on -/
def mvS (w : Nat) (s t : Int) (k : Nat) : Int := if gN w t (kN w s k) = 0 then 0 else sN w s k + sN w t (fullN w)
theorem mv_some {w : Nat} {s t : Int} {k : Nat} (hk : k < 2 ^ w) (z : gN w t (kN w s k) ≠ 0) : ∃ j, (gN w t (kN w s k)).testBit j = true := by
  by_cases q : ∃ j, (gN w t (kN w s k)).testBit j = true
  · exact q
  · exact absurd (Nat.eq_of_testBit_eq fun j => by
      rw [Nat.zero_testBit]
      exact Bool.eq_false_iff.mpr fun t => q ⟨j, t⟩) z
theorem kN_lt' {w : Nat} {s : Int} {k : Nat} (hk : k < 2 ^ w) : kN w s k < 2 ^ w := Nat.lt_of_le_of_lt Nat.and_le_left hk
theorem mv_parts {w : Nat} {s t : Int} {k : Nat} (hk : k < 2 ^ w) (z : gN w t (kN w s k) ≠ 0) : mvS w s t k = s + t ∧ -(w : Int) ≤ s + t ∧ s + t ≤ w := by
  obtain ⟨j, hj⟩ := mv_some hk z
  rw [gN_bit (kN_lt' hk)] at hj
  simp only [Bool.and_eq_true, decide_eq_true_eq] at hj
  obtain ⟨⟨h1, h2⟩, h3⟩ := hj
  have h3' := h3
  rw [kN_bit] at h3
  simp only [Bool.and_eq_true, decide_eq_true_eq] at h3
  obtain ⟨_, ⟨h4, h5⟩, h6⟩ := h3
  have k1 : kN w s k ≠ 0 := fun e => by rw [e, Nat.zero_testBit] at h3'; cases h3'
  have k2 : kN w t (fullN w) ≠ 0 := fun e => by
    have : (kN w t (fullN w)).testBit j = true := by
      rw [kN_bit, full_bit, decide_eq_true h1, decide_eq_true h2, decide_eq_true h4]
      rfl
    rw [e, Nat.zero_testBit] at this
    cases this
  refine ⟨?_, by omega, by omega⟩
  unfold mvS
  rw [if_neg z, sN_ne k1, sN_ne k2]
theorem mv_range {w : Nat} {s t : Int} {k : Nat} (hk : k < 2 ^ w) : -(w : Int) ≤ mvS w s t k ∧ mvS w s t k ≤ w := by
  by_cases z : gN w t (kN w s k) = 0
  · unfold mvS
    rw [if_pos z]
    omega
  · obtain ⟨a, b, c⟩ := mv_parts hk z
    rw [a]
    exact ⟨b, c⟩
theorem st_mv {w : Nat} {s t : Int} {k f v : Nat} (hk : k < 2 ^ w) (hf : f < 2 ^ w) (hv : v < 2 ^ w) :
    FN w (mvS w s t k) (kN w (mvS w s t k) (gN w t (kN w s k))) (gN w t f) v = gN w t (FN w s (kN w s k) f v) := by
  unfold FN
  rw [gN_xor (Nat.and_lt_two_pow _ (kN_lt' hk)) hf, gN_and (gN_lt hv) (kN_lt' hk)]
  congr 1
  by_cases z : gN w t (kN w s k) = 0
  · rw [z, kN_zero, Nat.and_zero, Nat.and_zero]
  · obtain ⟨a, b, c⟩ := mv_parts hk z
    rw [a]
    refine Nat.eq_of_testBit_eq fun j => ?_
    rw [Nat.testBit_and, Nat.testBit_and, kN_bit, gN_bit hv, gN_bit (gN_lt hv), gN_bit (kN_lt' hk), kN_bit]
    by_cases h1 : j < w
    · by_cases h2 : t ≤ (j : Int)
      · by_cases h3 : ((j : Int) - t).toNat < w
        · have e1 : ((((j : Int) - t).toNat : Nat) : Int) = (j : Int) - t := by omega
          rw [gN_bit hv, e1]
          by_cases h4 : s ≤ (j : Int) - t
          · have e2 : (j : Int) - (s + t) = (j : Int) - t - s := by omega
            rw [decide_eq_true h1, decide_eq_true h2, decide_eq_true h3, decide_eq_true h4, e2, decide_eq_true (show s + t ≤ (j : Int) by omega)]
            cases k.testBit ((j : Int) - t).toNat <;> cases v.testBit ((j : Int) - t - s).toNat <;> cases decide (((j : Int) - t - s).toNat < w) <;> rfl
          · rw [decide_eq_false h4, decide_eq_false (show ¬ s + t ≤ (j : Int) by omega)]
            simp
        · rw [decide_eq_false h3]
          simp
      · rw [decide_eq_false h2]
        simp
    · rw [decide_eq_false h1]
      simp
/-- the sources, one after another, as the results at the single bits show them -/
theorem col_bit {w : Nat} {s : Int} {k f i j : Nat} (hi : i < w) : (FN w s (kN w s k) f (2 ^ i) ^^^ f).testBit j = ((kN w s k).testBit j && decide ((j : Int) = i + s)) := by
  rw [Nat.testBit_xor, single_bit hi]
  cases h : (kN w s k).testBit j with
  | false => simp
  | true =>
    rw [kN_bit] at h
    simp only [Bool.and_eq_true, decide_eq_true_eq] at h
    have e : decide (((j : Int) - s).toNat = i) = decide ((j : Int) = i + s) := decide_eq_decide.mpr (by omega)
    rw [e]
    cases decide ((j : Int) = i + s) <;> cases f.testBit j <;> rfl
end KG

set_option Elab.async false
set_option linter.all false
set_option maxRecDepth 100000
set_option maxHeartbeats 4000000
namespace Law
open PySem PySem.Spec PySem.Calls PyProof.Rows L2 KG LamX
local macro_rules | `(tactic| walk_at "1") => `(tactic| first
  | (with_reducible refine w_var rfl ?_) | (with_reducible refine w_c ?_) | (with_reducible refine w_seq ?_) | (with_reducible refine w_asg ?_) | (with_reducible refine w_gname ?_) | (with_reducible refine w_op ?_) | (with_reducible refine w_un ?_)
  | (with_reducible refine w_add ?_) | (with_reducible refine w_sub ?_) | ((with_reducible refine' w_mod ?mo ?_); (case mo => first | assumption | decide | omega)) | (with_reducible refine w_and ?_) | (with_reducible refine w_or ?_) | (with_reducible refine w_xor ?_)
  | (with_reducible refine w_gt ?_) | (with_reducible refine w_lt ?_) | (with_reducible refine w_ge ?_) | (with_reducible refine w_le ?_) | ((with_reducible refine' w_eq ?sc ?_); (case sc => rfl)) | ((with_reducible refine' w_ne ?sc ?_); (case sc => rfl))
  | (with_reducible refine w_ret ?_) | (with_reducible refine w_next ?_) | (with_reducible refine w_ifs ?_) | (with_reducible refine w_ifx ?_) | (with_reducible refine w_test ?_) | (with_reducible refine w_tB ?_) | (with_reducible refine w_bl ?_)
  | ((with_reducible refine' w_ixL ?ixh ?ixa ?_); (case ixh => first | exact SqL.of (by assumption)); (case ixa => first | rfl | skip)) | ((with_reducible refine' w_ixT ?ixh ?ixa ?_); (case ixh => first | exact SqT.of (by assumption)); (case ixa => first | rfl | skip))
  | ((with_reducible refine' w_fld ?_)) | ((with_reducible refine' fld ?fh ?fc ?fn ?fl ?_); (case fh => assumption); (case fc => assumption); (case fn => assumption); (case fl => rfl)) | (with_reducible refine w_sfld ?_)
  | (with_reducible refine Or.inl ⟨_, rfl, ?_⟩) | (with_reducible refine w_gsub ?_) | (with_reducible refine w_andV ?_) | (with_reducible refine w_orV ?_)
  | (with_reducible refine w_nil ?_) | (with_reducible refine w_cons ?_) | (with_reducible refine w_tup ?_) | (with_reducible refine w_lst ?_) | (with_reducible refine w_and2 ?_) | (with_reducible refine w_or2 ?_) | (with_reducible refine w_not ?_) | (with_reducible refine w_cb ?_) | (with_reducible refine w_call ?_) | (with_reducible refine w_par ?_) | (with_reducible refine w_pnil ?_) | (with_reducible refine w_pcons ?_) | (with_reducible refine w_dput ?_) | (with_reducible refine w_dget ?_) | (with_reducible refine w_for ?_) | (with_reducible refine w_itup ?_) | (with_reducible refine w_ilist ?_) | (with_reducible refine w_irng ?_) | (with_reducible refine w_meth ?_) | (with_reducible refine w_make ?_) | (with_reducible refine w_makeK ?_) | (with_reducible refine w_methK ?_) | ((with_reducible refine' mth ?mh ?ml ?_); (case mh => assumption); (case ml => rfl)) | (with_reducible refine w_drop ?_))
local macro_rules | `(tactic| walk_at "go") => `(tactic| ((repeat (walk_at "1")); try dsimp only))
local macro_rules | `(tactic| walk_at "1") => `(tactic| first
  | (with_reducible refine w_notV ?_) | (with_reducible refine w_callK ?_) | (with_reducible refine w_lc ?_) | (with_reducible refine w_chain ?_) | (with_reducible refine w_neg ?_) | ((with_reducible refine' w_shr ?mo ?_); (case mo => first | assumption | omega)))
def top (i : Nat) : Stmt := PySem.Challenge.pw_keptbits_k05_what_blends_refuse.main.body.getD i (.Pass ⟨0, 0, 0, 0⟩)
abbrev s_is_int : Stmt := top 11
theorem sc_is_int : FnScope ["value"] ["value"] (defScope s_is_int) := ⟨rfl, rfl, rfl, by decide +kernel, rfl, by decide +kernel, by decide +kernel⟩
theorem bd_is_int : BindOk "is_int" "is_int" s_is_int ["value"] := fun _ _ _ _ _ _ us hl => match us, hl with | [_], _ => rfl
abbrev s_is_width : Stmt := top 12
theorem sc_is_width : FnScope ["value"] ["value"] (defScope s_is_width) := ⟨rfl, rfl, rfl, by decide +kernel, rfl, by decide +kernel, by decide +kernel⟩
theorem bd_is_width : BindOk "is_width" "is_width" s_is_width ["value"] := fun _ _ _ _ _ _ us hl => match us, hl with | [_], _ => rfl
abbrev s_full_word : Stmt := top 13
theorem sc_full_word : FnScope ["size"] ["size"] (defScope s_full_word) := ⟨rfl, rfl, rfl, by decide +kernel, rfl, by decide +kernel, by decide +kernel⟩
theorem bd_full_word : BindOk "full_word" "full_word" s_full_word ["size"] := fun _ _ _ _ _ _ us hl => match us, hl with | [_], _ => rfl
abbrev s_is_word : Stmt := top 14
theorem sc_is_word : FnScope ["value", "size"] ["value", "size"] (defScope s_is_word) := ⟨rfl, rfl, rfl, by decide +kernel, rfl, by decide +kernel, by decide +kernel⟩
theorem bd_is_word : BindOk "is_word" "is_word" s_is_word ["value", "size"] := fun _ _ _ _ _ _ us hl => match us, hl with | [_, _], _ => rfl
abbrev s_check_word : Stmt := top 15
theorem sc_check_word : FnScope ["value", "size"] ["value", "size"] (defScope s_check_word) := ⟨rfl, rfl, rfl, by decide +kernel, rfl, by decide +kernel, by decide +kernel⟩
theorem bd_check_word : BindOk "check_word" "check_word" s_check_word ["value", "size"] := fun _ _ _ _ _ _ us hl => match us, hl with | [_, _], _ => rfl
abbrev s_shifted : Stmt := top 17
theorem sc_shifted : FnScope ["word", "shift", "width"] ["word", "shift", "width"] (defScope s_shifted) := ⟨rfl, rfl, rfl, by decide +kernel, rfl, by decide +kernel, by decide +kernel⟩
theorem bd_shifted : BindOk "shifted" "shifted" s_shifted ["word", "shift", "width"] := fun _ _ _ _ _ _ us hl => match us, hl with | [_, _, _], _ => rfl
abbrev s_check_shift : Stmt := top 18
theorem sc_check_shift : FnScope ["value", "least", "most"] ["value", "least", "most"] (defScope s_check_shift) := ⟨rfl, rfl, rfl, by decide +kernel, rfl, by decide +kernel, by decide +kernel⟩
theorem bd_check_shift : BindOk "check_shift" "check_shift" s_check_shift ["value", "least", "most"] := fun _ _ _ _ _ _ us hl => match us, hl with | [_, _, _], _ => rfl
abbrev s_Blend___init__ : Stmt := inClass (top 19) 0
theorem sc_Blend___init__ : FnScope ["self", "width", "shift", "keep", "flip", "full", "kept"] ["self", "width", "shift", "keep", "flip"] (defScope s_Blend___init__) := ⟨rfl, rfl, rfl, by decide +kernel, rfl, by decide +kernel, by decide +kernel⟩
abbrev s_Blend_constant : Stmt := inClass (top 19) 1
theorem sc_Blend_constant : FnScope ["cls", "width", "value"] ["cls", "width", "value"] (defScope s_Blend_constant) := ⟨rfl, rfl, rfl, by decide +kernel, rfl, by decide +kernel, by decide +kernel⟩
theorem bd_Blend_constant : BindOk "constant" "Blend.constant" s_Blend_constant ["cls", "width", "value"] := fun _ _ _ _ _ _ us hl => match us, hl with | [_, _, _], _ => rfl
abbrev s_Blend___call__ : Stmt := inClass (top 19) 3
theorem sc_Blend___call__ : FnScope ["self", "value"] ["self", "value"] (defScope s_Blend___call__) := ⟨rfl, rfl, rfl, by decide +kernel, rfl, by decide +kernel, by decide +kernel⟩
theorem bd_Blend___call__ : BindOk "__call__" "Blend.__call__" s_Blend___call__ ["self", "value"] := fun _ _ _ _ _ _ us hl => match us, hl with | [_, _], _ => rfl
abbrev s_Blend___and__ : Stmt := inClass (top 19) 4
theorem sc_Blend___and__ : FnScope ["self", "other"] ["self", "other"] (defScope s_Blend___and__) := ⟨rfl, rfl, rfl, by decide +kernel, rfl, by decide +kernel, by decide +kernel⟩
theorem bd_Blend___and__ : BindOk "__and__" "Blend.__and__" s_Blend___and__ ["self", "other"] := fun _ _ _ _ _ _ us hl => match us, hl with | [_, _], _ => rfl
abbrev s_Blend___rand__ : Stmt := inClass (top 19) 5
theorem sc_Blend___rand__ : FnScope ["self", "other"] ["self", "other"] (defScope s_Blend___rand__) := ⟨rfl, rfl, rfl, by decide +kernel, rfl, by decide +kernel, by decide +kernel⟩
theorem bd_Blend___rand__ : BindOk "__rand__" "Blend.__rand__" s_Blend___rand__ ["self", "other"] := fun _ _ _ _ _ _ us hl => match us, hl with | [_, _], _ => rfl
abbrev s_Blend___or__ : Stmt := inClass (top 19) 6
theorem sc_Blend___or__ : FnScope ["self", "other", "zeros"] ["self", "other"] (defScope s_Blend___or__) := ⟨rfl, rfl, rfl, by decide +kernel, rfl, by decide +kernel, by decide +kernel⟩
theorem bd_Blend___or__ : BindOk "__or__" "Blend.__or__" s_Blend___or__ ["self", "other"] := fun _ _ _ _ _ _ us hl => match us, hl with | [_, _], _ => rfl
abbrev s_Blend___ror__ : Stmt := inClass (top 19) 7
theorem sc_Blend___ror__ : FnScope ["self", "other"] ["self", "other"] (defScope s_Blend___ror__) := ⟨rfl, rfl, rfl, by decide +kernel, rfl, by decide +kernel, by decide +kernel⟩
theorem bd_Blend___ror__ : BindOk "__ror__" "Blend.__ror__" s_Blend___ror__ ["self", "other"] := fun _ _ _ _ _ _ us hl => match us, hl with | [_, _], _ => rfl
abbrev s_Blend___xor__ : Stmt := inClass (top 19) 8
theorem sc_Blend___xor__ : FnScope ["self", "other"] ["self", "other"] (defScope s_Blend___xor__) := ⟨rfl, rfl, rfl, by decide +kernel, rfl, by decide +kernel, by decide +kernel⟩
theorem bd_Blend___xor__ : BindOk "__xor__" "Blend.__xor__" s_Blend___xor__ ["self", "other"] := fun _ _ _ _ _ _ us hl => match us, hl with | [_, _], _ => rfl
abbrev s_Blend___rxor__ : Stmt := inClass (top 19) 9
theorem sc_Blend___rxor__ : FnScope ["self", "other"] ["self", "other"] (defScope s_Blend___rxor__) := ⟨rfl, rfl, rfl, by decide +kernel, rfl, by decide +kernel, by decide +kernel⟩
theorem bd_Blend___rxor__ : BindOk "__rxor__" "Blend.__rxor__" s_Blend___rxor__ ["self", "other"] := fun _ _ _ _ _ _ us hl => match us, hl with | [_, _], _ => rfl
abbrev s_Blend___lshift__ : Stmt := inClass (top 19) 11
theorem sc_Blend___lshift__ : FnScope ["self", "other"] ["self", "other"] (defScope s_Blend___lshift__) := ⟨rfl, rfl, rfl, by decide +kernel, rfl, by decide +kernel, by decide +kernel⟩
theorem bd_Blend___lshift__ : BindOk "__lshift__" "Blend.__lshift__" s_Blend___lshift__ ["self", "other"] := fun _ _ _ _ _ _ us hl => match us, hl with | [_, _], _ => rfl
abbrev s_Blend___rshift__ : Stmt := inClass (top 19) 12
theorem sc_Blend___rshift__ : FnScope ["self", "other"] ["self", "other"] (defScope s_Blend___rshift__) := ⟨rfl, rfl, rfl, by decide +kernel, rfl, by decide +kernel, by decide +kernel⟩
theorem bd_Blend___rshift__ : BindOk "__rshift__" "Blend.__rshift__" s_Blend___rshift__ ["self", "other"] := fun _ _ _ _ _ _ us hl => match us, hl with | [_, _], _ => rfl
abbrev s_Blend_then : Stmt := inClass (top 19) 13
theorem sc_Blend_then : FnScope ["self", "c", "keep", "flip", "shift"] ["self", "c"] (defScope s_Blend_then) := ⟨rfl, rfl, rfl, by decide +kernel, rfl, by decide +kernel, by decide +kernel⟩
theorem bd_Blend_then : BindOk "then" "Blend.then" s_Blend_then ["self", "c"] := fun _ _ _ _ _ _ us hl => match us, hl with | [_, _], _ => rfl
abbrev s_Blend___repr__ : Stmt := inClass (top 19) 16
theorem sc_Blend___repr__ : FnScope ["self"] ["self"] (defScope s_Blend___repr__) := ⟨rfl, rfl, rfl, by decide +kernel, rfl, by decide +kernel, by decide +kernel⟩
theorem bd_Blend___repr__ : BindOk "__repr__" "Blend.__repr__" s_Blend___repr__ ["self"] := fun _ _ _ _ _ _ us hl => match us, hl with | [_], _ => rfl
abbrev s__law_pen : Stmt := top 21
theorem sc__law_pen : FnScope ["_law_script"] ["_law_script"] (defScope s__law_pen) := ⟨rfl, rfl, rfl, by decide +kernel, rfl, by decide +kernel, by decide +kernel⟩
theorem bd__law_pen : BindOk "_law_pen" "_law_pen" s__law_pen ["_law_script"] := fun _ _ _ _ _ _ us hl => match us, hl with | [_], _ => rfl
abbrev s__law_draw : Stmt := top 22
theorem sc__law_draw : FnScope ["_law_pen_here", "_law_many", "_law_digit", "_law_at", "_law_cell", "_law_great", "_law_mixed"] ["_law_pen_here", "_law_many"] (defScope s__law_draw) := ⟨rfl, rfl, rfl, by decide +kernel, rfl, by decide +kernel, by decide +kernel⟩
theorem bd__law_draw : BindOk "_law_draw" "_law_draw" s__law_draw ["_law_pen_here", "_law_many"] := fun _ _ _ _ _ _ us hl => match us, hl with | [_, _], _ => rfl
abbrev s__law_word : Stmt := top 23
theorem sc__law_word : FnScope ["_law_pen_here", "_law_width", "_law_top", "_law_any_word", "_law_turn", "_law_other"] ["_law_pen_here", "_law_width"] (defScope s__law_word) := ⟨rfl, rfl, rfl, by decide +kernel, rfl, by decide +kernel, by decide +kernel⟩
theorem bd__law_word : BindOk "_law_word" "_law_word" s__law_word ["_law_pen_here", "_law_width"] := fun _ _ _ _ _ _ us hl => match us, hl with | [_, _], _ => rfl
abbrev s__law_heard : Stmt := top 24
theorem sc__law_heard : FnScope ["_law_ask", "_law_caught", "error", "_law_marks"] ["_law_ask"] (defScope s__law_heard) := ⟨rfl, rfl, rfl, by decide +kernel, rfl, by decide +kernel, by decide +kernel⟩
theorem bd__law_heard : BindOk "_law_heard" "_law_heard" s__law_heard ["_law_ask"] := fun _ _ _ _ _ _ us hl => match us, hl with | [_], _ => rfl
abbrev s__law_odd : Stmt := top 25
theorem sc__law_odd : FnScope ["_law_pen_here", "_law_width", "_law_top", "_law_some"] ["_law_pen_here", "_law_width"] (defScope s__law_odd) := ⟨rfl, rfl, rfl, by decide +kernel, rfl, by decide +kernel, by decide +kernel⟩
theorem bd__law_odd : BindOk "_law_odd" "_law_odd" s__law_odd ["_law_pen_here", "_law_width"] := fun _ _ _ _ _ _ us hl => match us, hl with | [_, _], _ => rfl
abbrev s__law_whole : Stmt := top 26
theorem sc__law_whole : FnScope ["_law_thing"] ["_law_thing"] (defScope s__law_whole) := ⟨rfl, rfl, rfl, by decide +kernel, rfl, by decide +kernel, by decide +kernel⟩
theorem bd__law_whole : BindOk "_law_whole" "_law_whole" s__law_whole ["_law_thing"] := fun _ _ _ _ _ _ us hl => match us, hl with | [_], _ => rfl
abbrev s__law_due : Stmt := top 27
theorem sc__law_due : FnScope ["_law_numbers", "_law_marks", "_law_width", "_law_shift", "_law_keep", "_law_flip", "_law_top"] ["_law_numbers", "_law_marks"] (defScope s__law_due) := ⟨rfl, rfl, rfl, by decide +kernel, rfl, by decide +kernel, by decide +kernel⟩
theorem bd__law_due : BindOk "_law_due" "_law_due" s__law_due ["_law_numbers", "_law_marks"] := fun _ _ _ _ _ _ us hl => match us, hl with | [_, _], _ => rfl
abbrev s__law_made_right : Stmt := top 28
theorem sc__law_made_right : FnScope ["_law_width", "_law_numbers", "_law_due_here", "_law_heard_here"] ["_law_width", "_law_numbers"] (defScope s__law_made_right) := ⟨rfl, rfl, rfl, by decide +kernel, rfl, by decide +kernel, by decide +kernel⟩
theorem bd__law_made_right : BindOk "_law_made_right" "_law_made_right" s__law_made_right ["_law_width", "_law_numbers"] := fun _ _ _ _ _ _ us hl => match us, hl with | [_, _], _ => rfl
abbrev s__law_operations_right : Stmt := top 29
theorem sc__law_operations_right : FnScope ["_law_blend", "_law_thing", "_law_fits", "_law_heard_here", "_law_one", "_law_is_step"] ["_law_blend", "_law_thing"] (defScope s__law_operations_right) := ⟨rfl, rfl, rfl, by decide +kernel, rfl, by decide +kernel, by decide +kernel⟩
theorem bd__law_operations_right : BindOk "_law_operations_right" "_law_operations_right" s__law_operations_right ["_law_blend", "_law_thing"] := fun _ _ _ _ _ _ us hl => match us, hl with | [_, _], _ => rfl
abbrev s_law : Stmt := top 30
theorem sc_law : FnScope ["_law_script", "_law_pen_here", "_law_width", "_law_things", "_law_blend", "_law_kept", "_law_thing", "_law_turn", "_law_numbers", "_law_again"] ["_law_script"] (defScope s_law) := ⟨rfl, rfl, rfl, by decide +kernel, rfl, by decide +kernel, by decide +kernel⟩
theorem bd_law : BindOk "law" "law" s_law ["_law_script"] := fun _ _ _ _ _ _ us hl => match us, hl with | [_], _ => rfl
abbrev s_InvalidWidth___init__ : Stmt := inClass (top 3) 0
abbrev s_InvalidWord___init__ : Stmt := inClass (top 5) 0
abbrev s_InvalidShift___init__ : Stmt := inClass (top 6) 0
/-! ### values of many kinds -/
theorem dictA {H : Hp} {a : Addr} {z : Str} {i : Int} (h : H a = some (.dK [(.inr z, .int i)])) : Dn H (.ref a) (.dict [(.str z, .int i)]) := fun X pins σ s u I r => by
  obtain rfl : u = Value.ref a := r
  obtain ⟨_, ns, vs, kv, ob, es, ep, ho, hx, hd, hk, hp, _⟩ := I.hok a _ h
  cases kv with
  | cons r1 rt =>
    cases rt
    obtain ⟨e1, i1⟩ := r1
    rename_i p _
    obtain ⟨pk, pv⟩ := p
    dsimp only at e1 i1
    subst e1
    obtain ⟨t, rfl⟩ := i1
    generalize hes : es.toList = L at hp
    cases hp with
    | cons h1 h2 h3 =>
      cases h3
      rename_i en
      have hk : ∃ kt, en.key = .str z kt := by
        have h1 : Value.isStrOf z en.key = true := h1
        cases hky : en.key <;> rw [hky] at h1 <;> simp only [Value.isStrOf, Bool.false_eq_true] at h1
        rename_i y ty
        first
        | exact ⟨ty, by rw [eq_of_beq h1]⟩
        | exact ⟨ty, by rw [← eq_of_beq h1]⟩
      obtain ⟨kt, hk⟩ := hk
      refine ⟨[a], .dict (kvs := [(.str z, .int i)]) (as := []) (bs := []) ho hx.1 hd ?_ ?_, fun hb => ?_⟩
      · rw [hes]
        show ReadsAll _ [en.key] [.str z] []
        rw [hk]
        exact .cons (as := []) (bs := []) (.str z kt) .nil
      · rw [hes]
        show ReadsAll _ [en.val] [.int i] []
        rw [h2]
        exact .cons (as := []) (bs := []) (.int i t) .nil
      · rw [← List.mem_singleton.mp hb] at ns
        simp at ns
/-- the objects among them -/
def OvO (o : HO) (d : PyData) : Prop := (o = .tup [] ∧ d = .tuple []) ∨ (o = .lst [] ∧ d = .list []) ∨ (o = .dK [] ∧ d = .dict []) ∨ (o = .tup [.int 1] ∧ d = .tuple [.int 1]) ∨ (o = .lst [.int 1] ∧ d = .list [.int 1]) ∨ (o = .dK [(.inr "a", .int 1)] ∧ d = .dict [(.str "a", .int 1)])
def Ov (H : Hp) (x : V) (d : PyData) : Prop := (x = .non ∧ d = .none) ∨ (∃ b, x = .bl b ∧ d = .bool b) ∨ (∃ i, x = .int i ∧ d = .int i) ∨ (∃ z, x = .str z ∧ d = .str z) ∨ ∃ a o, x = .ref a ∧ H a = some o ∧ OvO o d
theorem oN {H : Hp} : Ov H .non .none := .inl ⟨rfl, rfl⟩
theorem oS {H : Hp} (z : Str) : Ov H (.str z) (.str z) := .inr (.inr (.inr (.inl ⟨z, rfl, rfl⟩)))
theorem oI {H : Hp} (z : Int) : Ov H (.int z) (.int z) := .inr (.inr (.inl ⟨z, rfl, rfl⟩))
theorem oB {H : Hp} (z : Bool) : Ov H (.bl z) (.bool z) := .inr (.inl ⟨z, rfl, rfl⟩)
theorem oR {H : Hp} {a : Addr} {o : HO} {d : PyData} (h : H a = some o) (k : OvO o d) : Ov H (.ref a) d := .inr (.inr (.inr (.inr ⟨a, o, rfl, h, k⟩)))
theorem Ov.da {H : Hp} {x : V} {d : PyData} (h : Ov H x d) : Da H x d := by
  rcases h with ⟨rfl, rfl⟩ | ⟨b, rfl, rfl⟩ | ⟨i, rfl, rfl⟩ | ⟨z, rfl, rfl⟩ | ⟨a, o, rfl, ha, h⟩
  · exact .non
  · exact .bl b
  · exact .int i
  · exact .str z
  · rcases h with ⟨rfl, rfl⟩ | ⟨rfl, rfl⟩ | ⟨rfl, rfl⟩ | ⟨rfl, rfl⟩ | ⟨rfl, rfl⟩ | ⟨rfl, rfl⟩
    · exact .tup ha .nil
    · exact .lst ha .nil
    · exact .dict0 ha
    · exact .tup ha (.cons (.int _) .nil)
    · exact .lst ha (.cons (.int _) .nil)
    · exact (dictA ha).da
theorem Ov.dn {H : Hp} {x : V} {d : PyData} (h : Ov H x d) (k : d.hasDict = true) : Dn H x d := by
  rcases h with ⟨rfl, rfl⟩ | ⟨b, rfl, rfl⟩ | ⟨i, rfl, rfl⟩ | ⟨z, rfl, rfl⟩ | ⟨a, o, rfl, ha, h⟩
  · simp [PyData.hasDict] at k
  · simp [PyData.hasDict] at k
  · simp [PyData.hasDict] at k
  · simp [PyData.hasDict] at k
  · rcases h with ⟨rfl, rfl⟩ | ⟨rfl, rfl⟩ | ⟨rfl, rfl⟩ | ⟨rfl, rfl⟩ | ⟨rfl, rfl⟩ | ⟨rfl, rfl⟩
    · simp [PyData.hasDict, PyData.hasDictAll] at k
    · simp [PyData.hasDict, PyData.hasDictAll] at k
    · exact .dict0 ha
    · simp [PyData.hasDict, PyData.hasDictAll] at k
    · simp [PyData.hasDict, PyData.hasDictAll] at k
    · exact dictA ha
theorem Ov.same {H H' : Hp} {x : V} {d : PyData} (s : Same H H') (h : Ov H x d) : Ov H' x d := by
  rcases h with h | h | h | h | ⟨a, o, e, ha, h⟩
  · exact .inl h
  · exact .inr (.inl h)
  · exact .inr (.inr (.inl h))
  · exact .inr (.inr (.inr (.inl h)))
  · exact .inr (.inr (.inr (.inr ⟨a, o, e, s _ _ ha, h⟩)))
theorem Ov.td {H : Hp} {x : V} {d : PyData} (h : Ov H x d) : ∃ T, TyD H x T := by
  rcases h with ⟨rfl, rfl⟩ | ⟨b, rfl, rfl⟩ | ⟨i, rfl, rfl⟩ | ⟨z, rfl, rfl⟩ | ⟨a, o, rfl, ha, h⟩
  · exact ⟨_, .non⟩
  · exact ⟨_, .bl b⟩
  · exact ⟨_, .int i⟩
  · exact ⟨_, .str z⟩
  · rcases h with ⟨rfl, rfl⟩ | ⟨rfl, rfl⟩ | ⟨rfl, rfl⟩ | ⟨rfl, rfl⟩ | ⟨rfl, rfl⟩ | ⟨rfl, rfl⟩
    · exact ⟨_, .tup ha⟩
    · exact ⟨_, .lst ha⟩
    · exact ⟨_, .dct ha⟩
    · exact ⟨_, .tup ha⟩
    · exact ⟨_, .lst ha⟩
    · exact ⟨_, .dct ha⟩
def isI : V → Bool | .int _ => true | _ => false
def isB : V → Bool | .bl _ => true | _ => false
def isS : V → Bool | .str _ => true | _ => false
def wd (i : Int) : Bool := decide (i = 8) || decide (i = 16) || decide (i = 32)
def isWd : V → Bool | .int i => wd i | _ => false
theorem wd_of {w : Int} (h : wd w = true) : w = 8 ∨ w = 16 ∨ w = 32 := by
  unfold wd at h
  simp only [Bool.or_eq_true, decide_eq_true_eq] at h
  omega
theorem ov_ty {K : PySem.W.Frag} {H : Hp} {x : V} {d : PyData} (h : Ov H x d) : ∃ t, TyX K H x (.type t) ∧ kitB t "int" = some (isI x || isB x) ∧ kitB t "bool" = some (isB x) := by
  rcases h with ⟨rfl, rfl⟩ | ⟨b, rfl, rfl⟩ | ⟨i, rfl, rfl⟩ | ⟨z, rfl, rfl⟩ | ⟨a, o, rfl, ha, h⟩
  · exact ⟨_, .base .non, by decide +kernel, by decide +kernel⟩
  · exact ⟨_, .base (.bl b), by cases b <;> decide +kernel, by cases b <;> decide +kernel⟩
  · exact ⟨"int", .base (.int i), show kitB "int" "int" = some true by decide +kernel, show kitB "int" "bool" = some false by decide +kernel⟩
  · exact ⟨"str", .base (.str z), show kitB "str" "int" = some false by decide +kernel, show kitB "str" "bool" = some false by decide +kernel⟩
  · rcases h with ⟨rfl, rfl⟩ | ⟨rfl, rfl⟩ | ⟨rfl, rfl⟩ | ⟨rfl, rfl⟩ | ⟨rfl, rfl⟩ | ⟨rfl, rfl⟩
    · exact ⟨"tuple", .base (.tup ha), show kitB "tuple" "int" = some false by decide +kernel, show kitB "tuple" "bool" = some false by decide +kernel⟩
    · exact ⟨"list", .base (.lst ha), show kitB "list" "int" = some false by decide +kernel, show kitB "list" "bool" = some false by decide +kernel⟩
    · exact ⟨"dict", .base (.dK ha), show kitB "dict" "int" = some false by decide +kernel, show kitB "dict" "bool" = some false by decide +kernel⟩
    · exact ⟨"tuple", .base (.tup ha), show kitB "tuple" "int" = some false by decide +kernel, show kitB "tuple" "bool" = some false by decide +kernel⟩
    · exact ⟨"list", .base (.lst ha), show kitB "list" "int" = some false by decide +kernel, show kitB "list" "bool" = some false by decide +kernel⟩
    · exact ⟨"dict", .base (.dK ha), show kitB "dict" "int" = some false by decide +kernel, show kitB "dict" "bool" = some false by decide +kernel⟩
/-! ### numbers of blends -/
def fw (w : Int) : Int := 1 * 2 ^ w.toNat - 1
def shf (v s w : Int) : Int := if s < 0 then v / 2 ^ (-s).toNat else Builtin.bitAnd (v * 2 ^ s.toNat) (fw w)
structure Bq where
  w : Int
  s : Int
  k : Int
  f : Int
  deriving DecidableEq
def norm (w s k f : Int) : Bq :=
  let kept := Builtin.bitAnd k (shf (fw w) s w)
  ⟨w, if kept = 0 then 0 else s, kept, f⟩
/-- numbers that are taken -/
def okN (w s k f : Int) : Bool := wd w && decide (-w ≤ s) && decide (s ≤ w) && decide (0 ≤ k) && decide (k ≤ fw w) && decide (0 ≤ f) && decide (f ≤ fw w)
def Bq.ok (b : Bq) : Bool := okN b.w b.s b.k b.f
def calB (b : Bq) (v : Int) : Int := Builtin.bitXor (Builtin.bitAnd (shf v b.s b.w) b.k) b.f
def bf (b : Bq) : List (Str × V) := [("width", .int b.w), ("shift", .int b.s), ("keep", .int b.k), ("flip", .int b.f)]
def BlAt (C : Addr) (H : Hp) (x : Addr) (b : Bq) : Prop := ∃ dx, H x = some (.ins C dx (bf b))
theorem BlAt.same {C : Addr} {H H' : Hp} {x : Addr} {b : Bq} (h : BlAt C H x b) (s : Same H H') : BlAt C H' x b := by
  obtain ⟨dx, e⟩ := h
  exact ⟨dx, s _ _ e⟩
theorem okN_of {w s k f : Int} (h : okN w s k f = true) : wd w = true ∧ -w ≤ s ∧ s ≤ w ∧ 0 ≤ k ∧ k ≤ fw w ∧ 0 ≤ f ∧ f ≤ fw w := by
  unfold okN at h
  simp only [Bool.and_eq_true, decide_eq_true_eq] at h
  obtain ⟨⟨⟨⟨⟨⟨h1, h2⟩, h3⟩, h4⟩, h5⟩, h6⟩, h7⟩ := h
  exact ⟨h1, h2, h3, h4, h5, h6, h7⟩
structure B1 (mg : Str → Option Value) : Prop where
  g_int : mg "int" = none
  g_len : mg "len" = none
  g_abs : mg "abs" = none
  g_list : mg "list" = none
  g_repr : mg "repr" = none
  g_range : mg "range" = none
  g_str : mg "str" = none
  g_isinstance : mg "isinstance" = none
  g_bool : mg "bool" = none
  g_tuple : mg "tuple" = none
structure T1 (K : PySem.W.Frag) (w : World) (mg : Str → Option Value) (C aL aP : Addr) (tl : Int → Addr) : Prop where
  g_Blend : mg "Blend" = some (.ref C)
  g_LANES : mg "LANES" = some (.ref aL)
  kid : KID K aL [(8, .ref (tl 8)), (16, .ref (tl 16)), (32, .ref (tl 32))]
  cl : Cls K C
  nW : NoAttr K C "width"
  nS : NoAttr K C "shift"
  nK : NoAttr K C "keep"
  nF : NoAttr K C "flip"
  isC : PySem.W.findIn K (.ref C) "__class__" = some (some (.builtin "object.__class__"))
  isG : PySem.W.specialIn K (.builtin "object.__class__") "__get__" = some (some (.builtin "getset_descriptor.__get__"))
  isT : PySem.W.takesIn K (.builtin "object.__class__") = some true
  isM : PySem.W.mroIn K C (.type "object") = some true
def isW (n : Int) : V → Bool | .int v => decide (0 ≤ v) && decide (v ≤ fw n) | _ => false
def isSh (a b : Int) : V → Bool | .int v => decide (a ≤ v) && decide (v ≤ b) | _ => false
def tErrV (E : XK) (H : Hp) (c : Addr) (v : V) : Prop := ∀ (dd : Addr) (H' : Hp), Same H H' → H' dd = some (.xd [("value", v)]) → E (.ref c) (some dd) H'
def spIsInt : Sp := fun vs H Q _ => ∃ (x : V) (d : PyData), vs = [x] ∧ Ov H x d ∧ Q (.bl (isI x)) H
def spIsWd : Sp := fun vs H Q _ => ∃ (x : V) (d : PyData), vs = [x] ∧ Ov H x d ∧ Q (.bl (isWd x)) H
def spFull : Sp := fun vs H Q _ => ∃ n : Int, vs = [.int n] ∧ wd n = true ∧ Q (.int (fw n)) H
def spIsWord : Sp := fun vs H Q _ => ∃ (x : V) (d : PyData) (n : Int), vs = [x, .int n] ∧ Ov H x d ∧ wd n = true ∧ Q (.bl (isW n x)) H
def spShf : Sp := fun vs H Q _ => ∃ v s w : Int, vs = [.int v, .int s, .int w] ∧ wd w = true ∧ 0 ≤ v ∧ v ≤ fw w ∧ s ≤ 1000 ∧ Q (.int (shf v s w)) H
def spChkW (c2 : Addr) : Sp := fun vs H Q E => ∃ (x : V) (d : PyData) (n : Int), vs = [x, .int n] ∧ Ov H x d ∧ wd n = true ∧ (isW n x = true → Q .non H) ∧ (isW n x = false → tErrV E H c2 x)
def spChkS (c3 : Addr) : Sp := fun vs H Q E => ∃ (x : V) (d : PyData) (a b : Int), vs = [x, .int a, .int b] ∧ Ov H x d ∧ (isSh a b x = true → Q .non H) ∧ (isSh a b x = false → tErrV E H c3 x)
/-- the first of four arguments that is wrong: which error, and the value -/
def firstX (a b c e : V) : Option (Nat × V) :=
  match a with
  | .int w => if wd w = false then some (0, a) else if isSh (-w) w b = false then some (3, b) else if c ≠ .non ∧ isW w c = false then some (2, c) else if isW w e = false then some (2, e) else none
  | _ => some (0, a)
def spBI (C : Addr) (ce : Nat → Addr) : Sp := fun vs H Q E => ∃ (x dx : Addr) (a b c e : V) (da db dc de : PyData), vs = [.ref x, a, b, c, e] ∧ H x = some (.ins C dx []) ∧ Ov H a da ∧ Ov H b db ∧ Ov H c dc ∧ Ov H e de ∧
  (∀ i v, firstX a b c e = some (i, v) → tErrV E H (ce i) v) ∧
  (∀ (w s k f : Int), firstX a b c e = none → a = .int w → b = .int s → ((c = .non ∧ k = fw w) ∨ c = .int k) → e = .int f → okN w s k f = true → ∀ H', BlAt C H' x (norm w s k f) → (∀ b o, H b = some o → b ≠ x → H' b = some o) → Q .non H')
def spCal (C : Addr) (c2 : Addr) : Sp := fun vs H Q E => ∃ (x : Addr) (b : Bq) (y : V) (d : PyData), vs = [.ref x, y] ∧ BlAt C H x b ∧ b.ok = true ∧ Ov H y d ∧ (∀ v, y = .int v → 0 ≤ v → v ≤ fw b.w → Q (.int (calB b v)) H) ∧ (isW b.w y = false → tErrV E H c2 y)
section
variable {P : Program} {w : World} {K : PySem.W.Frag} {mg : Str → Option Value} {base : Heap} {C aL aP c0 c1 c2 c3 f0 f1 f2 f3 : Addr} {ce : Nat → Addr} {tl : Int → Addr}
theorem pass_no {X : Cx} : Passes (L2.CX X.prog X.w) X (fun _ _ _ => False) := fun _ _ _ _ _ _ _ h => by
  obtain ⟨_, _, _, _, _, _, _, _, _, _, _, _, z⟩ := h
  exact z.elim
theorem ok_is_int (D : DefAt K mg "is_int" s_is_int ["value"]) (B : B1 mg) : Cal P w K mg base 1 "is_int" spIsInt := by
  refine D.cal sc_is_int (fun vs H Q E h => ?_) (fun f cdv A outer s H vs Q E rm gd h => ?_)
  · obtain ⟨x, d, rfl, _⟩ := h
    rfl
  · obtain ⟨x, d, rfl, ov, q⟩ := h
    obtain ⟨t, ty, k1, k2⟩ := ov_ty (K := K) ov
    refine ⟨_, (pss_one (ps_ret (pe_and (pe_callB call_isi (by rfl) B.g_isinstance (by decide +kernel) (pa_cons (pv 0) (pa_cons (pe_bltn (v := .ty "int") rfl B.g_int (by decide +kernel) rfl) pa_nil))) (pe_one (pe_not (pe_callB call_isi (by rfl) B.g_isinstance (by decide +kernel) (pa_cons (pv 0) (pa_cons (pe_bltn (v := .ty "bool") rfl B.g_bool (by decide +kernel) rfl) pa_nil)))))))), ?_⟩
    walk_at "go"
    refine ⟨x, .ty "int", .type t, .type "int", _, rfl, .ty _, ty, kit_ty k1, _, rfl, ?_⟩
    have e : isI x = ((isI x || isB x) && !(isB x)) := by cases x <;> rfl
    rw [e] at q
    cases h : (isI x || isB x) with
    | false =>
      rw [h] at q
      exact iteF q
    | true =>
      rw [h] at q
      refine iteT ?_
      walk_at "go"
      exact ⟨x, .ty "bool", .type t, .type "bool", _, rfl, .ty _, ty, kit_ty k2, _, rfl, q⟩
theorem ok_is_width (D : DefAt K mg "is_width" s_is_width ["value"]) (T : T1 K w mg C aL aP tl) (cis_int : Cal P w K mg base 1 "is_int" spIsInt) : Cal P w K mg base 2 "is_width" spIsWd := by
  refine D.cal sc_is_width (fun vs H Q E h => ?_) (fun f cdv A outer s H vs Q E rm gd h => ?_)
  · obtain ⟨x, d, rfl, _⟩ := h
    rfl
  · obtain ⟨x, d, rfl, ov, q⟩ := h
    refine ⟨_, (pss_one (ps_ret (pe_and (pc cis_int rm (by decide) gd rfl (pa_cons (pv 0) pa_nil)) (pe_one (pe_cmpR op_inKI (pv 0) (pe_glob (v := .ref aL) rfl T.g_LANES rfl) rfl))))), ?_⟩
    walk_at "go"
    refine ⟨x, d, rfl, ov, _, rfl, ?_⟩
    cases x with
    | int i =>
      refine iteT ?_
      walk_at "go"
      refine ⟨i, aL, _, rfl, rfl, T.kid, ?_⟩
      have e : (List.lookup i [(8, V.ref (tl 8)), (16, V.ref (tl 16)), (32, V.ref (tl 32))]).isSome = wd i := by
        unfold wd
        simp only [List.lookup_cons]
        by_cases h1 : i = 8
        · subst h1; rfl
        · by_cases h2 : i = 16
          · subst h2; rfl
          · by_cases h3 : i = 32
            · subst h3; rfl
            · rw [beq_eq_false_iff_ne.mpr h1, beq_eq_false_iff_ne.mpr h2, beq_eq_false_iff_ne.mpr h3, decide_eq_false h1, decide_eq_false h2, decide_eq_false h3]
              rfl
      rw [e]
      exact q
    | _ => exact iteF q
theorem ok_full_word (D : DefAt K mg "full_word" s_full_word ["size"]) : Cal P w K mg base 1 "full_word" spFull := by
  refine D.cal sc_full_word (fun vs H Q E h => ?_) (fun f cdv A outer s H vs Q E rm gd h => ?_)
  · obtain ⟨n, rfl, _⟩ := h
    rfl
  · obtain ⟨n, rfl, hn, q⟩ := h
    have h3 := wd_of hn
    refine ⟨_, (pss_one (ps_ret (pe_op op_sub (pe_op op_shl pe_int (pv 0)) pe_int))), ?_⟩
    walk_at "go"
    refine w_shl ⟨by omega, by omega, by decide⟩ ?_
    walk_at "go"
    exact q
theorem isW_of {n : Int} {x : V} (h : isW n x = true) : ∃ v, x = .int v ∧ 0 ≤ v ∧ v ≤ fw n := by
  cases x <;> simp only [isW, Bool.false_eq_true] at h
  rw [Bool.and_eq_true, decide_eq_true_eq, decide_eq_true_eq] at h
  exact ⟨_, rfl, h.1, h.2⟩
theorem isSh_of {a b : Int} {x : V} (h : isSh a b x = true) : ∃ v, x = .int v ∧ a ≤ v ∧ v ≤ b := by
  cases x <;> simp only [isSh, Bool.false_eq_true] at h
  rw [Bool.and_eq_true, decide_eq_true_eq, decide_eq_true_eq] at h
  exact ⟨_, rfl, h.1, h.2⟩
theorem ok_is_word (D : DefAt K mg "is_word" s_is_word ["value", "size"]) (cis_int : Cal P w K mg base 1 "is_int" spIsInt) (cfull_word : Cal P w K mg base 1 "full_word" spFull) : Cal P w K mg base 2 "is_word" spIsWord := by
  refine D.cal sc_is_word (fun vs H Q E h => ?_) (fun f cdv A outer s H vs Q E rm gd h => ?_)
  · obtain ⟨x, d, n, rfl, _⟩ := h
    rfl
  · obtain ⟨x, d, n, rfl, ov, hn, q⟩ := h
    refine ⟨_, (pss_one (ps_ret (pe_and (pc cis_int rm (by decide) gd rfl (pa_cons (pv 0) pa_nil)) (pe_one (pe_chain op_le op_le pe_int (pv 0) (pc cfull_word rm (by decide) gd rfl (pa_cons (pv 1) pa_nil))))))), ?_⟩
    walk_at "go"
    refine ⟨_, _, rfl, ov, _, rfl, ?_⟩
    cases x with
    | int v =>
      refine iteT ?_
      walk_at "go"
      cases h : decide (0 ≤ v) with
      | false =>
        rw [show isW n (.int v) = false by show (decide (0 ≤ v) && _) = false; rw [h]; rfl] at q
        exact iteF q
      | true =>
        rw [show isW n (.int v) = decide (v ≤ fw n) by show (decide (0 ≤ v) && _) = _; rw [h]; rfl] at q
        refine iteT ?_
        walk_at "go"
        refine ⟨n, rfl, hn, ?_⟩
        walk_at "go"
        exact q
    | _ => exact iteF q
theorem ok_check_word (D : DefAt K mg "check_word" s_check_word ["value", "size"]) (gE2 : mg "InvalidWord" = some (.ref c2))
    (TE2 : ErrC P K c2 f2 "InvalidWord.__init__" "value" "value" (defArgs s_InvalidWord___init__) (defBody s_InvalidWord___init__) (defScope s_InvalidWord___init__)) (TX2 : ErrX s_InvalidWord___init__ "InvalidWord.__init__" "value" "value")
    (cis_word : Cal P w K mg base 2 "is_word" spIsWord) : CalX P w K mg base 3 "check_word" ["value", "size"] (spChkW c2) := by
  refine D.calX (k := 2) sc_check_word (fun vs H Q E h => ?_) (fun f cdv A outer s H vs Q E rm gd h => ?_)
  · obtain ⟨x, d, n, rfl, _⟩ := h
    rfl
  · obtain ⟨x, d, n, rfl, ov, hn, q1, q2⟩ := h
    have tk := takes_cx (P := P) (w := w) (K := K) (mg := mg) (base := base) (N := ["value", "size"]) (qual := "check_word") (sc := defScope s_check_word) (f := f) (cd := cdv) (A := A) (outer := outer) (s := s) (H := H) (E := E)
    refine ⟨_, (pss_one (ps_if (pt_not (pt_val (pc cis_word rm (by decide) gd rfl (pa_cons (pv 0) (pa_cons (pv 1) pa_nil)))))
      (pss_one (ps_raise rfl tk (pmk_errX TE2 TX2 (k := 0) (rm.mono (by decide)) rfl gE2 (pa_cons (pv 0) pa_nil))))
      pss_nil)), ?_⟩
    walk_at "go"
    refine ⟨x, d, n, rfl, ov, hn, _, rfl, ?_⟩
    cases h : isW n x with
    | true =>
      refine iteF ?_
      walk_at "go"
      exact q1 h
    | false =>
      refine iteT ?_
      refine w_cons (w_var rfl (w_nil ⟨x, rfl, fun dd H6 nd hd keep => q2 h dd H6 (fun b o e => ?_) hd⟩))
      exact (keep b (ne_of_none e nd)).trans e
theorem ok_check_shift (D : DefAt K mg "check_shift" s_check_shift ["value", "least", "most"]) (gE3 : mg "InvalidShift" = some (.ref c3))
    (TE3 : ErrC P K c3 f3 "InvalidShift.__init__" "value" "value" (defArgs s_InvalidShift___init__) (defBody s_InvalidShift___init__) (defScope s_InvalidShift___init__)) (TX3 : ErrX s_InvalidShift___init__ "InvalidShift.__init__" "value" "value")
    (cis_int : Cal P w K mg base 1 "is_int" spIsInt) : CalX P w K mg base 2 "check_shift" ["value", "least", "most"] (spChkS c3) := by
  refine D.calX (k := 1) sc_check_shift (fun vs H Q E h => ?_) (fun f cdv A outer s H vs Q E rm gd h => ?_)
  · obtain ⟨x, d, a, b, rfl, _⟩ := h
    rfl
  · obtain ⟨x, d, a, b, rfl, ov, q1, q2⟩ := h
    have tk := takes_cx (P := P) (w := w) (K := K) (mg := mg) (base := base) (N := ["value", "least", "most"]) (qual := "check_shift") (sc := defScope s_check_shift) (f := f) (cd := cdv) (A := A) (outer := outer) (s := s) (H := H) (E := E)
    have bad : isSh a b x = false → ∀ (dd : Addr) (H6 : Hp), H dd = none → H6 dd = some (.xd [("value", x)]) → (∀ b, b ≠ dd → H6 b = H b) → E (.ref c3) (some dd) H6 := fun h dd H6 nd hd keep => q2 h dd H6 (fun b o e => (keep b (ne_of_none e nd)).trans e) hd
    refine ⟨_, (pss_one (ps_if (PW.pt (pw_or (pt_not (pt_val (pc cis_int rm (by decide) gd rfl (pa_cons (pv 0) pa_nil)))) (pw_or1 (pt_not (pt_chain op_le op_le (pv 1) (pv 0) (pv 2))))))
      (pss_one (ps_raise rfl tk (pmk_errX TE3 TX3 (k := 0) (rm.mono (by decide)) rfl gE3 (pa_cons (pv 0) pa_nil))))
      pss_nil)), ?_⟩
    walk_at "go"
    refine ⟨_, _, rfl, ov, _, rfl, ?_⟩
    cases x with
    | int v =>
      refine iteF ?_
      walk_at "go"
      cases h : decide (a ≤ v) with
      | false =>
        refine iteF ?_
        walk_at "go"
        refine iteT ?_
        refine w_cons (w_var rfl (w_nil ⟨_, rfl, fun dd H6 nd hd keep => bad (by show (decide (a ≤ v) && _) = false; rw [h]; rfl) dd H6 nd hd keep⟩))
      | true =>
        refine iteT ?_
        walk_at "go"
        cases h2 : decide (v ≤ b) with
        | false =>
          refine iteT ?_
          refine w_cons (w_var rfl (w_nil ⟨_, rfl, fun dd H6 nd hd keep => bad (by show (decide (a ≤ v) && decide (v ≤ b)) = false; rw [h, h2]; rfl) dd H6 nd hd keep⟩))
        | true =>
          refine iteF ?_
          walk_at "go"
          exact q1 (by show (decide (a ≤ v) && decide (v ≤ b)) = true; rw [h, h2]; rfl)
    | _ =>
      refine iteT ?_
      walk_at "go"
      refine iteT ?_
      refine w_cons (w_var rfl (w_nil ⟨_, rfl, fun dd H6 nd hd keep => bad rfl dd H6 nd hd keep⟩))
theorem ok_shifted (D : DefAt K mg "shifted" s_shifted ["word", "shift", "width"]) (cfull_word : Cal P w K mg base 1 "full_word" spFull) : Cal P w K mg base 2 "shifted" spShf := by
  refine D.cal sc_shifted (fun vs H Q E h => ?_) (fun f cdv A outer s H vs Q E rm gd h => ?_)
  · obtain ⟨v, s, n, rfl, _⟩ := h
    rfl
  · obtain ⟨v, s, n, rfl, hn, v0, v1, hs, q⟩ := h
    have h3 := wd_of hn
    have v2 : v.natAbs < 2 ^ 64 := by
      have : fw n ≤ 4294967295 := by
        rcases h3 with rfl | rfl | rfl <;> decide
      omega
    refine ⟨_, (pss_cons (ps_if (pt_cmpR op_lt (pv 1) pe_int (nomark _))
      (pss_one (ps_ret (pe_op op_shr (pv 0) (pe_un un_neg (pv 1)))))
      pss_nil)
    (pss_one (ps_ret (pe_op op_and (pe_op op_shl (pv 0) (pv 1)) (pc cfull_word rm (by decide) gd rfl (pa_cons (pv 2) pa_nil)))))), ?_⟩
    walk_at "go"
    by_cases h : s < 0
    · rw [decide_eq_true h]
      refine iteT ?_
      walk_at "go"
      unfold shf at q
      rw [if_pos h] at q
      exact q
    · rw [decide_eq_false h]
      refine iteF ?_
      walk_at "go"
      refine w_shl ⟨by omega, by omega, v2⟩ ?_
      walk_at "go"
      refine ⟨n, rfl, hn, ?_⟩
      walk_at "go"
      unfold shf at q
      rw [if_neg h] at q
      exact q
theorem isWd_of {x : V} (h : isWd x = true) : ∃ w, x = .int w ∧ wd w = true := by
  cases x <;> simp only [isWd, Bool.false_eq_true] at h
  exact ⟨_, rfl, h⟩
theorem wd_fw {w : Int} (h : wd w = true) : 0 ≤ fw w ∧ fw w ≤ 4294967295 ∧ w ≤ 32 ∧ 8 ≤ w := by
  rcases wd_of h with rfl | rfl | rfl <;> decide
theorem isW_full {w : Int} (h : wd w = true) : isW w (.int (fw w)) = true := by
  obtain ⟨a, _⟩ := wd_fw h
  show (decide (0 ≤ fw w) && decide (fw w ≤ fw w)) = true
  rw [decide_eq_true a, decide_eq_true (Int.le_refl _)]
  rfl
theorem isW_mk {w v : Int} (a : 0 ≤ v) (b : v ≤ fw w) : isW w (.int v) = true := by
  show (decide (0 ≤ v) && decide (v ≤ fw w)) = true
  rw [decide_eq_true a, decide_eq_true b]
  rfl
theorem isSh_mk {a b v : Int} (h1 : a ≤ v) (h2 : v ≤ b) : isSh a b (.int v) = true := by
  show (decide (a ≤ v) && decide (v ≤ b)) = true
  rw [decide_eq_true h1, decide_eq_true h2]
  rfl
theorem first0 {a b c e : V} (h : isWd a = false) : firstX a b c e = some (0, a) := by
  cases a with
  | int w =>
    have h : wd w = false := h
    unfold firstX
    simp only [h, if_true]
  | _ => rfl
theorem first1 {w : Int} {b c e : V} (hw : wd w = true) (h : isSh (-w) w b = false) : firstX (.int w) b c e = some (3, b) := by
  unfold firstX
  simp only [hw, h, Bool.true_eq_false, if_false, if_true]
theorem first2 {w : Int} {b c e : V} (hw : wd w = true) (hs : isSh (-w) w b = true) (hc : c ≠ .non) (h : isW w c = false) : firstX (.int w) b c e = some (2, c) := by
  unfold firstX
  simp only [hw, hs, h, Bool.true_eq_false, if_false]
  rw [if_pos ⟨hc, trivial⟩]
theorem first3 {w : Int} {b c e : V} (hw : wd w = true) (hs : isSh (-w) w b = true) (hc : c = .non ∨ isW w c = true) (h : isW w e = false) : firstX (.int w) b c e = some (2, e) := by
  unfold firstX
  simp only [hw, hs, h, Bool.true_eq_false, if_false, if_true]
  rw [if_neg fun z => ?_]
  rcases hc with hc | hc
  · exact z.1 hc
  · rw [hc] at z
    exact Bool.noConfusion z.2
theorem first4 {w : Int} {b c e : V} (hw : wd w = true) (hs : isSh (-w) w b = true) (hc : c = .non ∨ isW w c = true) (h : isW w e = true) : firstX (.int w) b c e = none := by
  unfold firstX
  simp only [hw, hs, h, Bool.true_eq_false, if_false]
  rw [if_neg fun z => ?_]
  rcases hc with hc | hc
  · exact z.1 hc
  · rw [hc] at z
    exact Bool.noConfusion z.2
theorem ok_BI {f : Addr} {fd : FuncData} {dvs : List V} {kws : List (Str × V)} (F : FunD K "__init__" "Blend.__init__" (defArgs s_Blend___init__) (defBody s_Blend___init__) (defScope s_Blend___init__) dvs kws f fd) (T : T1 K w mg C aL aP tl) (gE0 : mg "InvalidWidth" = some (.ref (ce 0)))
    (TE0 : ErrC P K (ce 0) f0 "InvalidWidth.__init__" "value" "value" (defArgs s_InvalidWidth___init__) (defBody s_InvalidWidth___init__) (defScope s_InvalidWidth___init__)) (TX0 : ErrX s_InvalidWidth___init__ "InvalidWidth.__init__" "value" "value")
    (cis_width : Cal P w K mg base 2 "is_width" spIsWd) (ccheck_shift : CalX P w K mg base 2 "check_shift" ["value", "least", "most"] (spChkS (ce 3))) (cfull_word : Cal P w K mg base 1 "full_word" spFull) (ccheck_word : CalX P w K mg base 3 "check_word" ["value", "size"] (spChkW (ce 2))) (cshifted : Cal P w K mg base 2 "shifted" spShf) :
    Gd P w K mg base (L2.CX P w) 4 f fd ["self", "width", "shift", "keep", "flip"] (spBI C ce) := by
  refine gdD (k := 3) F sc_Blend___init__ (fun vs H Q E h => ?_) (fun cdv A outer s H vs Q E rm gd h => ?_)
  · obtain ⟨x, dx, a, b, c, e, da, db, dc, de, rfl, _⟩ := h
    rfl
  · obtain ⟨x, dx, a, b, c, e, da, db, dc, de, rfl, hx, oa, ob, oc, oe, q1, q2⟩ := h
    have tk := takes_cx (P := P) (w := w) (K := K) (mg := mg) (base := base) (N := ["self", "width", "shift", "keep", "flip", "full", "kept"]) (qual := "Blend.__init__") (sc := defScope s_Blend___init__) (f := f) (cd := cdv) (A := A) (outer := outer) (s := s) (H := H) (E := E)
    have cl := T.cl
    have nW := T.nW
    have nS := T.nS
    have nK := T.nK
    have nF := T.nF
    refine ⟨_, (pss_cons (ps_if (pt_not (pt_val (pc cis_width rm (by decide) gd rfl (pa_cons (pv 1) pa_nil))))
      (pss_one (ps_raise rfl tk (pmk_errX TE0 TX0 (k := 0) (rm.mono (by decide)) rfl gE0 (pa_cons (pv 1) pa_nil))))
      pss_nil)
    (pss_cons (ps_expr (pcX ccheck_shift pass_cx rm (by decide) gd rfl (pa_cons (pv 2) (pa_cons (pe_un un_neg (pv 1)) (pa_cons (pv 1) pa_nil)))))
    (pss_cons (ps_set (i := 5) sc_Blend___init__.nd rfl (Or.inl rfl) (pc cfull_word rm (by decide) gd rfl (pa_cons (pv 1) pa_nil)))
    (pss_mid (ps_if (pt_cmpR op_isN (pv 3) pe_non (nomark _))
      (pss_one (ps_set (i := 3) sc_Blend___init__.nd rfl (Or.inl rfl) (pv 5)))
      pss_nil)
    (pss_cons (ps_expr (pcX ccheck_word pass_cx rm (by decide) gd rfl (pa_cons (pv 3) (pa_cons (pv 1) pa_nil))))
    (pss_cons (ps_expr (pcX ccheck_word pass_cx rm (by decide) gd rfl (pa_cons (pv 4) (pa_cons (pv 1) pa_nil))))
    (pss_cons (ps_set (i := 6) sc_Blend___init__.nd rfl (Or.inl rfl) (pe_op op_and (pv 3) (pc cshifted rm (by decide) gd rfl (pa_cons (pv 5) (pa_cons (pv 2) (pa_cons (pv 1) pa_nil))))))
    (pss_cons (ps_fld (pv 0) (pv 1) rfl)
    (pss_cons (ps_fld (pv 0) (pe_ifExp (pt_cmpR op_ne (pv 6) pe_int (nomark _)) (pv 2) pe_int) rfl)
    (pss_cons (ps_fld (pv 0) (pv 6) rfl)
    (pss_one (ps_fld (pv 0) (pv 4) rfl)))))))))))), ?_⟩
    walk_at "go"
    refine ⟨a, da, rfl, oa, _, rfl, ?_⟩
    cases hwd : isWd a with
    | false =>
      refine iteT ?_
      refine w_cons (w_var rfl (w_nil ⟨a, rfl, fun dd H6 nd hd keep => q1 0 a (first0 hwd) dd H6 (fun b o e => ?_) hd⟩))
      exact (keep b (ne_of_none e nd)).trans e
    | true =>
      obtain ⟨w, rfl, h1⟩ := isWd_of hwd
      have hw := wd_of h1
      obtain ⟨n0, nk, _, _⟩ := wd_fw h1
      refine iteF ?_
      walk_at "go"
      refine ⟨b, db, -w, w, rfl, ob, fun hs => ?_, fun hs => q1 3 b (first1 h1 hs)⟩
      obtain ⟨s, rfl, h2, h3⟩ := isSh_of hs
      walk_at "go"
      refine ⟨w, rfl, h1, ?_⟩
      walk_at "go"
      obtain ⟨kk, dk, okk, hkk⟩ : ∃ (kk : V) (dk : PyData), Ov H kk dk ∧ ((c = .non ∧ kk = .int (fw w)) ∨ (c ≠ .non ∧ kk = c)) := by
        by_cases z : c = .non
        · exact ⟨.int (fw w), .int (fw w), oI _, .inl ⟨z, rfl⟩⟩
        · exact ⟨c, dc, oc, .inr ⟨z, rfl⟩⟩
      refine w_mid (fun σ' H' => σ' = [some (.ref x), some (.int w), some (.int s), some kk, some e, some (.int (fw w)), none] ∧ H' = H) ?_ fun σ' H' ⟨es, eh⟩ => ?_
      · walk_at "go"
        refine ⟨rfl, ?_⟩
        walk_at "go"
        rcases hkk with ⟨rfl, rfl⟩ | ⟨z, rfl⟩
        · refine iteT ?_
          walk_at "go"
          exact ⟨rfl, rfl⟩
        · rw [decide_eq_false z]
          refine iteF ?_
          walk_at "go"
          exact ⟨rfl, rfl⟩
      · subst es
        subst eh
        walk_at "go"
        refine ⟨kk, dk, w, rfl, okk, h1, fun hk => ?_, fun hk => ?_⟩
        · have hc : c = .non ∨ isW w c = true := by
            rcases hkk with ⟨z, _⟩ | ⟨_, z⟩
            · exact .inl z
            · rw [z] at hk
              exact .inr hk
          obtain ⟨k, rfl, h4, h5⟩ := isW_of hk
          walk_at "go"
          refine ⟨e, de, w, rfl, oe, h1, fun hf => ?_, fun hf => q1 2 e (first3 h1 hs hc hf)⟩
          have fn := first4 h1 hs hc hf
          obtain ⟨f, rfl, h6, h7⟩ := isW_of hf
          have hck : (c = .non ∧ k = fw w) ∨ c = .int k := by
            rcases hkk with ⟨z, z2⟩ | ⟨_, z⟩
            · exact .inl ⟨z, by injection z2⟩
            · exact .inr z.symm
          have okk' : okN w s k f = true := by
            unfold okN
            simp only [Bool.and_eq_true, decide_eq_true_eq]
            exact ⟨⟨⟨⟨⟨⟨h1, h2⟩, h3⟩, h4⟩, h5⟩, h6⟩, h7⟩
          have q := q2 w s k f fn rfl rfl hck rfl okk'
          walk_at "go"
          refine ⟨fw w, s, w, rfl, h1, n0, Int.le_refl _, by rcases hw with rfl | rfl | rfl <;> omega, ?_⟩
          walk_at "go"
          refine sfld hx cl nW (by show 0 < 1000; decide) rfl fun H6 h6 e6 => ?_
          walk_at "go"
          have fin : ∀ (H7 H8 H9 : Hp), (∀ b, b ≠ x → H7 b = H6 b) → (∀ b, b ≠ x → H8 b = H7 b) → (∀ b, b ≠ x → H9 b = H8 b) → H9 x = some (.ins C dx [("width", .int w), ("shift", .int (if Builtin.bitAnd k (shf (fw w) s w) = 0 then 0 else s)), ("keep", .int (Builtin.bitAnd k (shf (fw w) s w))), ("flip", .int f)]) → Q .non H9 := fun H7 H8 H9 e7 e8 e9 h9 => by
            refine q H9 ⟨dx, h9⟩ fun b o e nb => ?_
            rw [e9 b nb, e8 b nb, e7 b nb, e6 b nb]
            exact e
          by_cases z : Builtin.bitAnd k (shf (fw w) s w) = 0
          · rw [show (!decide (V.int (Builtin.bitAnd k (shf (fw w) s w)) = V.int 0)) = false by rw [z]; rfl]
            refine iteF ?_
            walk_at "go"
            refine sfld h6 cl nS (by show 1 < 1000; decide) rfl fun H7 h7 e7 => ?_
            walk_at "go"
            refine sfld h7 cl nK (by show 2 < 1000; decide) rfl fun H8 h8 e8 => ?_
            walk_at "go"
            refine sfld h8 cl nF (by show 3 < 1000; decide) rfl fun H9 h9 e9 => ?_
            refine fin H7 H8 H9 e7 e8 e9 ?_
            rw [if_pos z]
            exact h9
          · rw [show (!decide (V.int (Builtin.bitAnd k (shf (fw w) s w)) = V.int 0)) = true by rw [decide_eq_false fun e => z (V.int.inj e)]; rfl]
            refine iteT ?_
            walk_at "go"
            refine sfld h6 cl nS (by show 1 < 1000; decide) rfl fun H7 h7 e7 => ?_
            walk_at "go"
            refine sfld h7 cl nK (by show 2 < 1000; decide) rfl fun H8 h8 e8 => ?_
            walk_at "go"
            refine sfld h8 cl nF (by show 3 < 1000; decide) rfl fun H9 h9 e9 => ?_
            refine fin H7 H8 H9 e7 e8 e9 ?_
            rw [if_neg z]
            exact h9
        · rcases hkk with ⟨_, z⟩ | ⟨z, z2⟩
          · rw [z, isW_full h1] at hk
            exact Bool.noConfusion hk
          · subst z2
            exact q1 2 kk (first2 h1 hs z hk)
theorem at_fld {H : Hp} {x : Addr} {b : Bq} (h : BlAt C H x b) : ∃ dx, H x = some (.ins C dx [("width", .int b.w), ("shift", .int b.s), ("keep", .int b.k), ("flip", .int b.f)]) := h
theorem first_ok {w s k f : Int} {kv : V} (hk : (kv = .non ∧ k = fw w) ∨ kv = .int k) (ok : okN w s k f = true) : firstX (.int w) (.int s) kv (.int f) = none := by
  obtain ⟨h1, h2, h3, h4, h5, h6, h7⟩ := okN_of ok
  refine first4 h1 (isSh_mk h2 h3) ?_ (isW_mk h6 h7)
  rcases hk with ⟨rfl, _⟩ | rfl
  · exact .inl rfl
  · exact .inr (isW_mk h4 h5)
/-- a new blend of right numbers -/
theorem mk_blX {w s k f : Int} {kv : V} {H : Hp} {Q : VK} {E : XK} {xs ds : List V} (ex : xs ++ ds = [.int w, .int s, kv, .int f]) (hk : (kv = .non ∧ k = fw w) ∨ kv = .int k) (ok : okN w s k f = true) (q : ∀ (r : Addr) (H' : Hp), H r = none → BlAt C H' r (norm w s k f) → Same H H' → Q (.ref r) H') : Make C (spBI C ce) (fun x => x :: (xs ++ ds)) E H Q :=
  make fun x dx H1 n1 h1 s1 => by
    rw [ex]
    have ov : ∃ dk, Ov H1 kv dk := by
      rcases hk with ⟨rfl, _⟩ | rfl
      · exact ⟨_, oN⟩
      · exact ⟨_, oI _⟩
    obtain ⟨dk, ov⟩ := ov
    refine ⟨x, dx, .int w, .int s, kv, .int f, .int w, .int s, dk, .int f, rfl, h1, oI _, oI _, ov, oI _, fun i v e => ?_, fun w' s' k' f' _ ew es ek ef ok' H2 h2 e2 => ?_⟩
    · rw [first_ok hk ok] at e
      cases e
    · cases ew; cases es; cases ef
      have : k' = k := by
        rcases hk with ⟨rfl, rfl⟩ | rfl
        · rcases ek with ⟨_, e⟩ | e
          · exact e
          · cases e
        · rcases ek with ⟨e, _⟩ | e
          · cases e
          · exact (V.int.inj e).symm
      subst this
      exact ⟨rfl, q x H2 n1 h2 fun b o e => e2 b o (s1 b o e) (ne_of_none e n1)⟩
theorem mk_bl {w s k f : Int} {H : Hp} {Q : VK} {E : XK} (ok : okN w s k f = true) (q : ∀ (r : Addr) (H' : Hp), H r = none → BlAt C H' r (norm w s k f) → Same H H' → Q (.ref r) H') : Make C (spBI C ce) (fun x => x :: ([.int w, .int s, .int k, .int f] ++ [])) E H Q :=
  mk_blX rfl (.inr rfl) ok q
theorem mk_bl2 {w s : Int} {H : Hp} {Q : VK} {E : XK} (ok : okN w s (fw w) 0 = true) (q : ∀ (r : Addr) (H' : Hp), H r = none → BlAt C H' r (norm w s (fw w) 0) → Same H H' → Q (.ref r) H') : Make C (spBI C ce) (fun x => x :: ([.int w, .int s] ++ [.non, .int 0])) E H Q :=
  mk_blX rfl (.inl ⟨rfl, rfl⟩) ok q
section
variable {f fT : Addr} {fd : FuncData}
theorem ok_call (D : MetAt K C "__call__" "Blend.__call__" s_Blend___call__ ["self", "value"] f) (T : T1 K w mg C aL aP tl) (ccheck_word : CalX P w K mg base 3 "check_word" ["value", "size"] (spChkW c2)) (cshifted : Cal P w K mg base 2 "shifted" spShf) :
    ∃ fd, Meth K C "__call__" f ∧ Fun K "__call__" "Blend.__call__" s_Blend___call__ f fd ∧ Binds K fd ["self", "value"] [] ∧ Gd P w K mg base (L2.CX P w) 4 f fd ["self", "value"] (spCal C c2) := by
  refine D.gdx (k := 3) sc_Blend___call__ (fun vs H Q E h => ?_) (fun cdv A outer s H vs Q E rm gd h => ?_)
  · obtain ⟨x, b, y, d, rfl, _⟩ := h
    rfl
  · obtain ⟨x, b, y, d, rfl, hx, hok, oy, q1, q2⟩ := h
    obtain ⟨dx, hx⟩ := at_fld hx
    have cl := T.cl
    have nW := T.nW
    have nS := T.nS
    have nK := T.nK
    have nF := T.nF
    have B := T
    obtain ⟨b1, b2, b3, b4, b6, b7, b8⟩ := okN_of hok
    obtain ⟨f0, f1, f2, f3⟩ := wd_fw b1
    refine ⟨_, (pss_cons (ps_expr (pcX ccheck_word pass_cx rm (by decide) gd rfl (pa_cons (pv 1) (pa_cons (pe_fld (pv 0) rfl) pa_nil))))
    (pss_one (ps_ret (pe_op op_xor (pe_op op_and (pc cshifted rm (by decide) gd rfl (pa_cons (pv 1) (pa_cons (pe_fld (pv 0) rfl) (pa_cons (pe_fld (pv 0) rfl) pa_nil)))) (pe_fld (pv 0) rfl)) (pe_fld (pv 0) rfl))))), ?_⟩
    walk_at "go"
    refine ⟨y, d, b.w, rfl, oy, b1, fun hw => ?_, q2⟩
    obtain ⟨v, rfl, v0, v1⟩ := isW_of hw
    have q := q1 v rfl v0 v1
    walk_at "go"
    refine ⟨v, b.s, b.w, rfl, b1, v0, v1, by omega, ?_⟩
    walk_at "go"
    exact q
end
end
theorem fw_pow {w : Int} (h : wd w = true) {v : Nat} : (v : Int) ≤ fw w ↔ v < 2 ^ w.toNat := by
  rcases wd_of h with rfl | rfl | rfl
  · show (v : Int) ≤ 255 ↔ v < 256
    omega
  · show (v : Int) ≤ 65535 ↔ v < 65536
    omega
  · show (v : Int) ≤ 4294967295 ↔ v < 4294967296
    omega
theorem dI' (a b : Int) : decide (V.int a = V.int b) = decide (a = b) := by
  by_cases h : a = b
  · rw [h, decide_eq_true rfl, decide_eq_true rfl]
  · rw [decide_eq_false h, decide_eq_false fun e => h (V.int.inj e)]
theorem and_w {w a b : Int} (h : wd w = true) (a0 : 0 ≤ a) (a1 : a ≤ fw w) (b0 : 0 ≤ b) (b1 : b ≤ fw w) : 0 ≤ Builtin.bitAnd a b ∧ Builtin.bitAnd a b ≤ fw w := by
  obtain ⟨m, rfl⟩ := Int.eq_ofNat_of_zero_le a0
  obtain ⟨n, rfl⟩ := Int.eq_ofNat_of_zero_le b0
  rw [PyProof.Rows.bitAnd_pp a0 b0]
  exact ⟨Int.natCast_nonneg _, (fw_pow h).mpr (Nat.and_lt_two_pow _ ((fw_pow h).mp b1))⟩
theorem xor_w {w a b : Int} (h : wd w = true) (a0 : 0 ≤ a) (a1 : a ≤ fw w) (b0 : 0 ≤ b) (b1 : b ≤ fw w) : 0 ≤ Builtin.bitXor a b ∧ Builtin.bitXor a b ≤ fw w := by
  obtain ⟨m, rfl⟩ := Int.eq_ofNat_of_zero_le a0
  obtain ⟨n, rfl⟩ := Int.eq_ofNat_of_zero_le b0
  rw [Bits.bitXor_pp a0 b0]
  exact ⟨Int.natCast_nonneg _, (fw_pow h).mpr (Nat.xor_lt_two_pow ((fw_pow h).mp a1) ((fw_pow h).mp b1))⟩
theorem or_w {w a b : Int} (h : wd w = true) (a0 : 0 ≤ a) (a1 : a ≤ fw w) (b0 : 0 ≤ b) (b1 : b ≤ fw w) : 0 ≤ Builtin.bitOr a b ∧ Builtin.bitOr a b ≤ fw w := by
  obtain ⟨m, rfl⟩ := Int.eq_ofNat_of_zero_le a0
  obtain ⟨n, rfl⟩ := Int.eq_ofNat_of_zero_le b0
  rw [Bits.bitOr_pp a0 b0]
  exact ⟨Int.natCast_nonneg _, (fw_pow h).mpr (Nat.or_lt_two_pow ((fw_pow h).mp a1) ((fw_pow h).mp b1))⟩
theorem okN_mk {w s k f : Int} (h : wd w = true) (s0 : -w ≤ s) (s1 : s ≤ w) (k' : 0 ≤ k ∧ k ≤ fw w) (f' : 0 ≤ f ∧ f ≤ fw w) : okN w s k f = true := by
  unfold okN
  simp only [Bool.and_eq_true, decide_eq_true_eq]
  exact ⟨⟨⟨⟨⟨⟨h, s0⟩, s1⟩, k'.1⟩, k'.2⟩, f'.1⟩, f'.2⟩
def gAnd (b : Bq) (v : Int) : Bq := norm b.w b.s (Builtin.bitAnd b.k v) (Builtin.bitAnd b.f v)
def gOr (b : Bq) (v : Int) : Bq := norm b.w b.s (Builtin.bitAnd b.k (Builtin.bitXor v (fw b.w))) (Builtin.bitOr b.f v)
def gXor (b : Bq) (v : Int) : Bq := norm b.w b.s b.k (Builtin.bitXor b.f v)
def spW2 (C c2 : Addr) (g : Bq → Int → Bq) : Sp := fun vs H Q E => ∃ (x : Addr) (b : Bq) (y : V) (d : PyData), vs = [.ref x, y] ∧ BlAt C H x b ∧ b.ok = true ∧ Ov H y d ∧ (∀ v, y = .int v → 0 ≤ v → v ≤ fw b.w → ∀ (r : Addr) (H' : Hp), H r = none → BlAt C H' r (g b v) → Same H H' → Q (.ref r) H') ∧ (isW b.w y = false → tErrV E H c2 y)
section
variable {P : Program} {w : World} {K : PySem.W.Frag} {mg : Str → Option Value} {base : Heap} {C aL aP f0 : Addr} {ce : Nat → Addr} {tl : Int → Addr} {f g fT : Addr} {fd fdA : FuncData}
theorem ok_and (D : MetAt K C "__and__" "Blend.__and__" s_Blend___and__ ["self", "other"] f) (T : T1 K w mg C aL aP tl) (MK : Mk K C fT) (FIN : Gd P w K mg base (L2.CX P w) 4 fT fd ["self", "width", "shift", "keep", "flip"] (spBI C ce)) (b5 : Binds K fd ["self", "width", "shift", "keep", "flip"] []) (ccheck_word : CalX P w K mg base 3 "check_word" ["value", "size"] (spChkW (ce 2))) (cfull_word : Cal P w K mg base 1 "full_word" spFull) :
    ∃ fd, Meth K C "__and__" f ∧ Fun K "__and__" "Blend.__and__" s_Blend___and__ f fd ∧ Binds K fd ["self", "other"] [] ∧ Gd P w K mg base (L2.CX P w) 6 f fd ["self", "other"] (spW2 C (ce 2) gAnd) := by
  refine D.gdx (k := 5) sc_Blend___and__ (fun vs H Q E h => ?_) (fun cdv A outer s H vs Q E rm gd h => ?_)
  · obtain ⟨x, b, y, d, rfl, _⟩ := h
    rfl
  · obtain ⟨x, b, y, d, rfl, hx, hok, oy, q1, q2⟩ := h
    obtain ⟨dx, hx⟩ := at_fld hx
    have cl := T.cl
    have nW := T.nW
    have nS := T.nS
    have nK := T.nK
    have nF := T.nF
    have rm5 := rm
    obtain ⟨b1, b2, b3, b4, b6, b7, b8⟩ := okN_of hok
    obtain ⟨n0, _⟩ := wd_fw b1
    refine ⟨_, (pss_cons (ps_expr (pcX ccheck_word pass_cx rm (by decide) gd rfl (pa_cons (pv 1) (pa_cons (pe_fld (pv 0) rfl) pa_nil))))
    (pss_one (ps_ret (pe_gmake MK FIN rm5 gd rfl T.g_Blend b5 .nil pass_cx (pa_cons (pe_fld (pv 0) rfl) (pa_cons (pe_fld (pv 0) rfl) (pa_cons (pe_op op_and (pe_fld (pv 0) rfl) (pv 1)) (pa_cons (pe_op op_and (pe_fld (pv 0) rfl) (pv 1)) pa_nil)))))))), ?_⟩
    walk_at "go"
    refine ⟨y, d, b.w, rfl, oy, b1, fun hw => ?_, q2⟩
    obtain ⟨v, rfl, v0, v1⟩ := isW_of hw
    have q := q1 v rfl v0 v1
    walk_at "go"
    exact mk_bl (okN_mk b1 b2 b3 (and_w b1 b4 b6 v0 v1) (and_w b1 b7 b8 v0 v1)) fun r H' n h z => q r H' n h z
theorem ok_rand (D : MetAt K C "__rand__" "Blend.__rand__" s_Blend___rand__ ["self", "other"] f) (oA : OpD K C g .BitAnd) (FA : Gd P w K mg base (L2.CX P w) 6 g fdA ["self", "other"] (spW2 C (ce 2) gAnd)) (bA : Binds K fdA ["self", "other"] []) :
    ∃ fd, Meth K C "__rand__" f ∧ Fun K "__rand__" "Blend.__rand__" s_Blend___rand__ f fd ∧ Binds K fd ["self", "other"] [] ∧ Gd P w K mg base (L2.CX P w) 7 f fd ["self", "other"] (spW2 C (ce 2) gAnd) := by
  refine D.gdx (k := 6) sc_Blend___rand__ (fun vs H Q E h => ?_) (fun cdv A outer s H vs Q E rm gd h => ?_)
  · obtain ⟨x, b, y, d, rfl, _⟩ := h
    rfl
  · obtain ⟨x, b, y, d, rfl, hx, hok, oy, q1, q2⟩ := h
    obtain ⟨dx, hx'⟩ := at_fld hx
    obtain ⟨T, ty⟩ := oy.td
    have rmA := rm
    refine ⟨_, (pss_one (ps_ret (pe_op (op_ownD oA FA rmA gd bA pass_cx) (pv 0) (pv 1)))), ?_⟩
    walk_at "go"
    exact w_ownD hx' ty ⟨x, b, y, d, rfl, hx, hok, oy, q1, q2⟩
theorem ok_or (D : MetAt K C "__or__" "Blend.__or__" s_Blend___or__ ["self", "other"] f) (T : T1 K w mg C aL aP tl) (MK : Mk K C fT) (FIN : Gd P w K mg base (L2.CX P w) 4 fT fd ["self", "width", "shift", "keep", "flip"] (spBI C ce)) (b5 : Binds K fd ["self", "width", "shift", "keep", "flip"] []) (ccheck_word : CalX P w K mg base 3 "check_word" ["value", "size"] (spChkW (ce 2))) (cfull_word : Cal P w K mg base 1 "full_word" spFull) :
    ∃ fd, Meth K C "__or__" f ∧ Fun K "__or__" "Blend.__or__" s_Blend___or__ f fd ∧ Binds K fd ["self", "other"] [] ∧ Gd P w K mg base (L2.CX P w) 6 f fd ["self", "other"] (spW2 C (ce 2) gOr) := by
  refine D.gdx (k := 5) sc_Blend___or__ (fun vs H Q E h => ?_) (fun cdv A outer s H vs Q E rm gd h => ?_)
  · obtain ⟨x, b, y, d, rfl, _⟩ := h
    rfl
  · obtain ⟨x, b, y, d, rfl, hx, hok, oy, q1, q2⟩ := h
    obtain ⟨dx, hx⟩ := at_fld hx
    have cl := T.cl
    have nW := T.nW
    have nS := T.nS
    have nK := T.nK
    have nF := T.nF
    have rm5 := rm
    obtain ⟨b1, b2, b3, b4, b6, b7, b8⟩ := okN_of hok
    obtain ⟨n0, _⟩ := wd_fw b1
    refine ⟨_, (pss_cons (ps_expr (pcX ccheck_word pass_cx rm (by decide) gd rfl (pa_cons (pv 1) (pa_cons (pe_fld (pv 0) rfl) pa_nil))))
    (pss_cons (ps_set (i := 2) sc_Blend___or__.nd rfl (Or.inl rfl) (pe_op op_xor (pv 1) (pc cfull_word rm (by decide) gd rfl (pa_cons (pe_fld (pv 0) rfl) pa_nil))))
    (pss_one (ps_ret (pe_gmake MK FIN rm5 gd rfl T.g_Blend b5 .nil pass_cx (pa_cons (pe_fld (pv 0) rfl) (pa_cons (pe_fld (pv 0) rfl) (pa_cons (pe_op op_and (pe_fld (pv 0) rfl) (pv 2)) (pa_cons (pe_op op_or (pe_fld (pv 0) rfl) (pv 1)) pa_nil))))))))), ?_⟩
    walk_at "go"
    refine ⟨y, d, b.w, rfl, oy, b1, fun hw => ?_, q2⟩
    obtain ⟨v, rfl, v0, v1⟩ := isW_of hw
    have q := q1 v rfl v0 v1
    walk_at "go"
    refine ⟨b.w, rfl, b1, ?_⟩
    walk_at "go"
    have z := xor_w b1 v0 v1 n0 (Int.le_refl _)
    exact mk_bl (okN_mk b1 b2 b3 (and_w b1 b4 b6 z.1 z.2) (or_w b1 b7 b8 v0 v1)) fun r H' n h z => q r H' n h z
theorem ok_ror (D : MetAt K C "__ror__" "Blend.__ror__" s_Blend___ror__ ["self", "other"] f) (oA : OpD K C g .BitOr) (FA : Gd P w K mg base (L2.CX P w) 6 g fdA ["self", "other"] (spW2 C (ce 2) gOr)) (bA : Binds K fdA ["self", "other"] []) :
    ∃ fd, Meth K C "__ror__" f ∧ Fun K "__ror__" "Blend.__ror__" s_Blend___ror__ f fd ∧ Binds K fd ["self", "other"] [] ∧ Gd P w K mg base (L2.CX P w) 7 f fd ["self", "other"] (spW2 C (ce 2) gOr) := by
  refine D.gdx (k := 6) sc_Blend___ror__ (fun vs H Q E h => ?_) (fun cdv A outer s H vs Q E rm gd h => ?_)
  · obtain ⟨x, b, y, d, rfl, _⟩ := h
    rfl
  · obtain ⟨x, b, y, d, rfl, hx, hok, oy, q1, q2⟩ := h
    obtain ⟨dx, hx'⟩ := at_fld hx
    obtain ⟨T, ty⟩ := oy.td
    have rmA := rm
    refine ⟨_, (pss_one (ps_ret (pe_op (op_ownD oA FA rmA gd bA pass_cx) (pv 0) (pv 1)))), ?_⟩
    walk_at "go"
    exact w_ownD hx' ty ⟨x, b, y, d, rfl, hx, hok, oy, q1, q2⟩
theorem ok_xor (D : MetAt K C "__xor__" "Blend.__xor__" s_Blend___xor__ ["self", "other"] f) (T : T1 K w mg C aL aP tl) (MK : Mk K C fT) (FIN : Gd P w K mg base (L2.CX P w) 4 fT fd ["self", "width", "shift", "keep", "flip"] (spBI C ce)) (b5 : Binds K fd ["self", "width", "shift", "keep", "flip"] []) (ccheck_word : CalX P w K mg base 3 "check_word" ["value", "size"] (spChkW (ce 2))) (cfull_word : Cal P w K mg base 1 "full_word" spFull) :
    ∃ fd, Meth K C "__xor__" f ∧ Fun K "__xor__" "Blend.__xor__" s_Blend___xor__ f fd ∧ Binds K fd ["self", "other"] [] ∧ Gd P w K mg base (L2.CX P w) 6 f fd ["self", "other"] (spW2 C (ce 2) gXor) := by
  refine D.gdx (k := 5) sc_Blend___xor__ (fun vs H Q E h => ?_) (fun cdv A outer s H vs Q E rm gd h => ?_)
  · obtain ⟨x, b, y, d, rfl, _⟩ := h
    rfl
  · obtain ⟨x, b, y, d, rfl, hx, hok, oy, q1, q2⟩ := h
    obtain ⟨dx, hx⟩ := at_fld hx
    have cl := T.cl
    have nW := T.nW
    have nS := T.nS
    have nK := T.nK
    have nF := T.nF
    have rm5 := rm
    obtain ⟨b1, b2, b3, b4, b6, b7, b8⟩ := okN_of hok
    obtain ⟨n0, _⟩ := wd_fw b1
    refine ⟨_, (pss_cons (ps_expr (pcX ccheck_word pass_cx rm (by decide) gd rfl (pa_cons (pv 1) (pa_cons (pe_fld (pv 0) rfl) pa_nil))))
    (pss_one (ps_ret (pe_gmake MK FIN rm5 gd rfl T.g_Blend b5 .nil pass_cx (pa_cons (pe_fld (pv 0) rfl) (pa_cons (pe_fld (pv 0) rfl) (pa_cons (pe_fld (pv 0) rfl) (pa_cons (pe_op op_xor (pe_fld (pv 0) rfl) (pv 1)) pa_nil)))))))), ?_⟩
    walk_at "go"
    refine ⟨y, d, b.w, rfl, oy, b1, fun hw => ?_, q2⟩
    obtain ⟨v, rfl, v0, v1⟩ := isW_of hw
    have q := q1 v rfl v0 v1
    walk_at "go"
    exact mk_bl (okN_mk b1 b2 b3 ⟨b4, b6⟩ (xor_w b1 b7 b8 v0 v1)) fun r H' n h z => q r H' n h z
theorem ok_rxor (D : MetAt K C "__rxor__" "Blend.__rxor__" s_Blend___rxor__ ["self", "other"] f) (oA : OpD K C g .BitXor) (FA : Gd P w K mg base (L2.CX P w) 6 g fdA ["self", "other"] (spW2 C (ce 2) gXor)) (bA : Binds K fdA ["self", "other"] []) :
    ∃ fd, Meth K C "__rxor__" f ∧ Fun K "__rxor__" "Blend.__rxor__" s_Blend___rxor__ f fd ∧ Binds K fd ["self", "other"] [] ∧ Gd P w K mg base (L2.CX P w) 7 f fd ["self", "other"] (spW2 C (ce 2) gXor) := by
  refine D.gdx (k := 6) sc_Blend___rxor__ (fun vs H Q E h => ?_) (fun cdv A outer s H vs Q E rm gd h => ?_)
  · obtain ⟨x, b, y, d, rfl, _⟩ := h
    rfl
  · obtain ⟨x, b, y, d, rfl, hx, hok, oy, q1, q2⟩ := h
    obtain ⟨dx, hx'⟩ := at_fld hx
    obtain ⟨T, ty⟩ := oy.td
    have rmA := rm
    refine ⟨_, (pss_one (ps_ret (pe_op (op_ownD oA FA rmA gd bA pass_cx) (pv 0) (pv 1)))), ?_⟩
    walk_at "go"
    exact w_ownD hx' ty ⟨x, b, y, d, rfl, hx, hok, oy, q1, q2⟩
/-- .. one after another -/
def gThen (b c : Bq) : Bq :=
  let k := Builtin.bitAnd (shf b.k c.s b.w) c.k
  norm b.w (if k = 0 then 0 else b.s + c.s) k (Builtin.bitXor (Builtin.bitAnd (shf b.f c.s b.w) c.k) c.f)
def spThen (C : Addr) : Sp := fun vs H Q _ => ∃ (x y : Addr) (b c : Bq), vs = [.ref x, .ref y] ∧ BlAt C H x b ∧ BlAt C H y c ∧ b.ok = true ∧ c.ok = true ∧ c.w = b.w ∧ okN b.w (if Builtin.bitAnd (shf b.k c.s b.w) c.k = 0 then 0 else b.s + c.s) (Builtin.bitAnd (shf b.k c.s b.w) c.k) (Builtin.bitXor (Builtin.bitAnd (shf b.f c.s b.w) c.k) c.f) = true ∧
  ∀ (r : Addr) (H' : Hp), H r = none → BlAt C H' r (gThen b c) → Same H H' → Q (.ref r) H'
theorem ok_then (D : MetAt K C "then" "Blend.then" s_Blend_then ["self", "c"] f) (T : T1 K w mg C aL aP tl) (MK : Mk K C fT) (FIN : Gd P w K mg base (L2.CX P w) 4 fT fd ["self", "width", "shift", "keep", "flip"] (spBI C ce)) (b5 : Binds K fd ["self", "width", "shift", "keep", "flip"] []) (cshifted : Cal P w K mg base 2 "shifted" spShf) :
    ∃ fd, Meth K C "then" f ∧ Fun K "then" "Blend.then" s_Blend_then f fd ∧ Binds K fd ["self", "c"] [] ∧ Gd P w K mg base CX0 6 f fd ["self", "c"] (spThen C) := by
  refine D.gd (k := 5) sc_Blend_then (fun vs H Q E h => ?_) (fun cdv A outer s H vs Q E rm gd h => ?_)
  · obtain ⟨x, y, b, c, rfl, _⟩ := h
    rfl
  · obtain ⟨x, y, b, c, rfl, hb, hc, hok, hoc, hw, hn, q⟩ := h
    obtain ⟨dx, hx⟩ := at_fld hb
    obtain ⟨dy, hy⟩ := at_fld hc
    have cl := T.cl
    have nW := T.nW
    have nS := T.nS
    have nK := T.nK
    have nF := T.nF
    have rm5 := rm
    obtain ⟨b1, b2, b3, b4, b6, b7, b8⟩ := okN_of hok
    obtain ⟨c1, c2, c3, c4, c6, c7, c8⟩ := okN_of hoc
    obtain ⟨n0, n1, n2, n3⟩ := wd_fw b1
    refine ⟨_, (pss_cons (ps_if (pt_cmpR op_ne (pe_fld (pv 1) rfl) (pe_fld (pv 0) rfl) (nomark _))
      (pss_one ps_never)
      pss_nil)
    (pss_cons (ps_set (i := 2) sc_Blend_then.nd rfl (Or.inl rfl) (pe_op op_and (pc cshifted rm (by decide) gd rfl (pa_cons (pe_fld (pv 0) rfl) (pa_cons (pe_fld (pv 1) rfl) (pa_cons (pe_fld (pv 0) rfl) pa_nil)))) (pe_fld (pv 1) rfl)))
    (pss_cons (ps_set (i := 3) sc_Blend_then.nd rfl (Or.inl rfl) (pe_op op_xor (pe_op op_and (pc cshifted rm (by decide) gd rfl (pa_cons (pe_fld (pv 0) rfl) (pa_cons (pe_fld (pv 1) rfl) (pa_cons (pe_fld (pv 0) rfl) pa_nil)))) (pe_fld (pv 1) rfl)) (pe_fld (pv 1) rfl)))
    (pss_cons (ps_set (i := 4) sc_Blend_then.nd rfl (Or.inl rfl) (pe_ifExp (pt_cmpR op_ne (pv 2) pe_int (nomark _)) (pe_op op_add (pe_fld (pv 0) rfl) (pe_fld (pv 1) rfl)) pe_int))
    (pss_one (ps_ret (pe_gmake MK FIN rm5 gd rfl T.g_Blend b5 .nil pass_no (pa_cons (pe_fld (pv 0) rfl) (pa_cons (pv 4) (pa_cons (pv 2) (pa_cons (pv 3) pa_nil))))))))))), ?_⟩
    walk_at "go"
    rw [show (!decide (V.int c.w = V.int b.w)) = false by rw [hw, decide_eq_true rfl]; rfl]
    refine iteF ?_
    walk_at "go"
    refine ⟨b.k, c.s, b.w, rfl, b1, b4, b6, by omega, ?_⟩
    walk_at "go"
    refine ⟨b.f, c.s, b.w, rfl, b1, b7, b8, by omega, ?_⟩
    walk_at "go"
    unfold gThen at q
    dsimp only at q
    generalize Builtin.bitAnd (shf b.k c.s b.w) c.k = kk at hn q ⊢
    by_cases z : kk = 0
    · rw [show (!decide (V.int kk = V.int 0)) = false by rw [z]; rfl]
      rw [if_pos z] at hn q
      refine iteF ?_
      walk_at "go"
      exact mk_bl hn fun r H' n h z => q r H' n h z
    · rw [show (!decide (V.int kk = V.int 0)) = true by rw [decide_eq_false fun e => z (V.int.inj e)]; rfl]
      rw [if_neg z] at hn q
      refine iteT ?_
      walk_at "go"
      exact mk_bl hn fun r H' n h z => q r H' n h z
def mvOk (b : Bq) (t : Int) : Prop := okN b.w (if Builtin.bitAnd (shf b.k (norm b.w t (fw b.w) 0).s b.w) (norm b.w t (fw b.w) 0).k = 0 then 0 else b.s + (norm b.w t (fw b.w) 0).s) (Builtin.bitAnd (shf b.k (norm b.w t (fw b.w) 0).s b.w) (norm b.w t (fw b.w) 0).k) (Builtin.bitXor (Builtin.bitAnd (shf b.f (norm b.w t (fw b.w) 0).s b.w) (norm b.w t (fw b.w) 0).k) (norm b.w t (fw b.w) 0).f) = true ∧ (norm b.w t (fw b.w) 0).ok = true
/-- moved up or down -/
def spMv (C c3 : Addr) (sg : Int) : Sp := fun vs H Q E => ∃ (x : Addr) (b : Bq) (y : V) (d : PyData), vs = [.ref x, y] ∧ BlAt C H x b ∧ b.ok = true ∧ Ov H y d ∧
  (∀ n, y = .int n → 0 ≤ n → n ≤ b.w → mvOk b (sg * n) ∧ ∀ (r : Addr) (H' : Hp), H r = none → BlAt C H' r (gThen b (norm b.w (sg * n) (fw b.w) 0)) → Same H H' → Q (.ref r) H') ∧ (isSh 0 b.w y = false → tErrV E H c3 y)
theorem ok_lshift (D : MetAt K C "__lshift__" "Blend.__lshift__" s_Blend___lshift__ ["self", "other"] f) (T : T1 K w mg C aL aP tl) (MK : Mk K C fT) (FIN : Gd P w K mg base (L2.CX P w) 4 fT fd ["self", "width", "shift", "keep", "flip"] (spBI C ce)) {d3 : List Value} (v3 : Vals [.non, .int 0] d3) (b3 : Binds K fd ["self", "width", "shift", "keep", "flip"] d3) (ccheck_shift : CalX P w K mg base 2 "check_shift" ["value", "least", "most"] (spChkS (ce 3)))
    (mTh : Meth K C "then" g) (FTh : Gd P w K mg base CX0 6 g fdA ["self", "c"] (spThen C)) (bTh : Binds K fdA ["self", "c"] []) :
    ∃ fd, Meth K C "__lshift__" f ∧ Fun K "__lshift__" "Blend.__lshift__" s_Blend___lshift__ f fd ∧ Binds K fd ["self", "other"] [] ∧ Gd P w K mg base (L2.CX P w) 7 f fd ["self", "other"] (spMv C (ce 3) 1) := by
  refine D.gdx (k := 6) sc_Blend___lshift__ (fun vs H Q E h => ?_) (fun cdv A outer s H vs Q E rm gd h => ?_)
  · obtain ⟨x, b, y, d, rfl, _⟩ := h
    rfl
  · obtain ⟨x, b, y, d, rfl, hb, hok, oy, q1, q2⟩ := h
    obtain ⟨dx, hx⟩ := at_fld hb
    have cl := T.cl
    have nW := T.nW
    have rm5 := rm.mono (show 5 ≤ 6 by decide)
    have rmT := rm
    obtain ⟨b1, b2, b3', b4, b6, b7, b8⟩ := okN_of hok
    obtain ⟨m0, m1, m2, m3⟩ := wd_fw b1
    refine ⟨_, (pss_cons (ps_expr (pcX ccheck_shift pass_cx rm (by decide) gd rfl (pa_cons (pv 1) (pa_cons pe_int (pa_cons (pe_fld (pv 0) rfl) pa_nil)))))
    (pss_one (ps_ret (pe_gmeth (pv 0) cl mTh FTh rmT gd bTh .nil pass0 (pa_cons (pe_gmake MK FIN rm5 gd rfl T.g_Blend b3 v3 pass_cx (pa_cons (pe_fld (pv 0) rfl) (pa_cons (pv 1) pa_nil))) pa_nil))))), ?_⟩
    walk_at "go"
    refine ⟨y, d, 0, b.w, rfl, oy, fun hs => ?_, q2⟩
    obtain ⟨n, rfl, n0, n1⟩ := isSh_of hs
    obtain ⟨⟨hn, hz⟩, q⟩ := q1 n rfl n0 n1
    rw [Int.one_mul] at hn hz q
    walk_at "go"
    refine mk_bl2 (okN_mk b1 (by omega) (by omega) ⟨m0, Int.le_refl _⟩ ⟨Int.le_refl _, m0⟩) fun r1 H1 e1 h1 z1 => ?_
    walk_at "go"
    exact ⟨x, r1, b, _, rfl, hb.same z1, h1, hok, hz, rfl, hn, fun r H' e h z => q r H' (by
      cases e9 : H r with
      | none => rfl
      | some o => rw [z1 _ _ e9] at e; cases e) h (z1.trans z)⟩
theorem ok_rshift (D : MetAt K C "__rshift__" "Blend.__rshift__" s_Blend___rshift__ ["self", "other"] f) (T : T1 K w mg C aL aP tl) (MK : Mk K C fT) (FIN : Gd P w K mg base (L2.CX P w) 4 fT fd ["self", "width", "shift", "keep", "flip"] (spBI C ce)) {d3 : List Value} (v3 : Vals [.non, .int 0] d3) (b3 : Binds K fd ["self", "width", "shift", "keep", "flip"] d3) (ccheck_shift : CalX P w K mg base 2 "check_shift" ["value", "least", "most"] (spChkS (ce 3)))
    (mTh : Meth K C "then" g) (FTh : Gd P w K mg base CX0 6 g fdA ["self", "c"] (spThen C)) (bTh : Binds K fdA ["self", "c"] []) :
    ∃ fd, Meth K C "__rshift__" f ∧ Fun K "__rshift__" "Blend.__rshift__" s_Blend___rshift__ f fd ∧ Binds K fd ["self", "other"] [] ∧ Gd P w K mg base (L2.CX P w) 7 f fd ["self", "other"] (spMv C (ce 3) (-1)) := by
  refine D.gdx (k := 6) sc_Blend___rshift__ (fun vs H Q E h => ?_) (fun cdv A outer s H vs Q E rm gd h => ?_)
  · obtain ⟨x, b, y, d, rfl, _⟩ := h
    rfl
  · obtain ⟨x, b, y, d, rfl, hb, hok, oy, q1, q2⟩ := h
    obtain ⟨dx, hx⟩ := at_fld hb
    have cl := T.cl
    have nW := T.nW
    have rm5 := rm.mono (show 5 ≤ 6 by decide)
    have rmT := rm
    obtain ⟨b1, b2, b3', b4, b6, b7, b8⟩ := okN_of hok
    obtain ⟨m0, m1, m2, m3⟩ := wd_fw b1
    refine ⟨_, (pss_cons (ps_expr (pcX ccheck_shift pass_cx rm (by decide) gd rfl (pa_cons (pv 1) (pa_cons pe_int (pa_cons (pe_fld (pv 0) rfl) pa_nil)))))
    (pss_one (ps_ret (pe_gmeth (pv 0) cl mTh FTh rmT gd bTh .nil pass0 (pa_cons (pe_gmake MK FIN rm5 gd rfl T.g_Blend b3 v3 pass_cx (pa_cons (pe_fld (pv 0) rfl) (pa_cons (pe_un un_neg (pv 1)) pa_nil))) pa_nil))))), ?_⟩
    walk_at "go"
    refine ⟨y, d, 0, b.w, rfl, oy, fun hs => ?_, q2⟩
    obtain ⟨n, rfl, n0, n1⟩ := isSh_of hs
    obtain ⟨⟨hn, hz⟩, q⟩ := q1 n rfl n0 n1
    rw [Int.neg_one_mul] at hn hz q
    walk_at "go"
    refine mk_bl2 (okN_mk b1 (by omega) (by omega) ⟨m0, Int.le_refl _⟩ ⟨Int.le_refl _, m0⟩) fun r1 H1 e1 h1 z1 => ?_
    walk_at "go"
    exact ⟨x, r1, b, _, rfl, hb.same z1, h1, hok, hz, rfl, hn, fun r H' e h z => q r H' (by
      cases e9 : H r with
      | none => rfl
      | some o => rw [z1 _ _ e9] at e; cases e) h (z1.trans z)⟩
/-- constant -/
def spCst (C : Addr) (ce : Nat → Addr) : Sp := fun vs H Q E => ∃ (a y : V) (da dy : PyData), vs = [.ref C, a, y] ∧ Ov H a da ∧ Ov H y dy ∧ (∀ i v, firstX a (.int 0) (.int 0) y = some (i, v) → tErrV E H (ce i) v) ∧
  ∀ n v, a = .int n → y = .int v → wd n = true → 0 ≤ v → v ≤ fw n → ∀ (r : Addr) (H' : Hp), H r = none → BlAt C H' r (norm n 0 0 v) → Same H H' → Q (.ref r) H'
theorem ok_cst {fa : Addr} {fdc : FuncData} (F : Fun K "constant" "Blend.constant" s_Blend_constant fa fdc) (T : T1 K w mg C aL aP tl) (MK : Mk K C fT) (FIN : Gd P w K mg base (L2.CX P w) 4 fT fd ["self", "width", "shift", "keep", "flip"] (spBI C ce)) (b5 : Binds K fd ["self", "width", "shift", "keep", "flip"] []) :
    Gd P w K mg base (L2.CX P w) 6 fa fdc ["cls", "width", "value"] (spCst C ce) := by
  refine gdF (k := 5) F sc_Blend_constant (fun vs H Q E h => ?_) (fun cdv A outer s H vs Q E rm gd h => ?_)
  · obtain ⟨a, y, da, dy, rfl, _⟩ := h
    rfl
  · obtain ⟨a, y, da, dy, rfl, oa, oy, q1, q2⟩ := h
    have rm5 := rm
    refine ⟨_, (pss_one (ps_ret (pe_gmakeV MK FIN rm5 gd (pv 0) b5 .nil pass_cx (pa_cons (pv 1) (pa_cons pe_int (pa_cons pe_int (pa_cons (pv 2) pa_nil))))))), ?_⟩
    walk_at "go"
    refine ⟨rfl, ?_⟩
    walk_at "go"
    refine make fun x dx H1 n1 h1 s1 => ?_
    refine ⟨x, dx, a, .int 0, .int 0, y, da, .int 0, .int 0, dy, rfl, h1, oa.same s1, oI _, oI _, oy.same s1, fun i v e dd H' z => q1 i v e dd H' (s1.trans z), fun w' s' k' f' _ ew es ek ef ok' H2 h2 e2 => ?_⟩
    obtain ⟨g1, g2, g3, g4, g5, g6, g7⟩ := okN_of ok'
    cases es
    have : k' = 0 := by
      rcases ek with ⟨e, _⟩ | e
      · cases e
      · exact (V.int.inj e).symm
    subst this
    exact ⟨rfl, q2 w' f' ew ef g1 g6 g7 x H2 n1 h2 fun b o e => e2 b o (s1 b o e) (ne_of_none e n1)⟩
end
/-- the text of a blend -/
def rp (b : Bq) : Str := Str.empty ++ "Blend(" ++ (toString b.w : String) ++ ", " ++ (toString b.s : String) ++ ", " ++ (toString b.k : String) ++ ", " ++ (toString b.f : String) ++ ")"
def spRp (C : Addr) : Sp := fun vs H Q _ => ∃ (x : Addr) (b : Bq), vs = [.ref x] ∧ BlAt C H x b ∧ b.ok = true ∧ Q (.str (rp b)) H
section
variable {P : Program} {w : World} {K : PySem.W.Frag} {mg : Str → Option Value} {base : Heap} {C aL aP c0 c1 f0 f1 : Addr} {tl : Int → Addr}
theorem num_len {b : Bq} (h : b.ok = true) : (b.w.natAbs < 10 ^ 10 ∧ b.s.natAbs < 10 ^ 10 ∧ b.k.natAbs < 10 ^ 10 ∧ b.f.natAbs < 10 ^ 10) := by
  obtain ⟨h1, h2, h3, h4, h5, h6, h7⟩ := okN_of h
  obtain ⟨f0, f1, f2, f3⟩ := wd_fw h1
  refine ⟨?_, ?_, ?_, ?_⟩ <;> omega
theorem log_small {i : Int} (h : i.natAbs < 10 ^ 10) : i.natAbs.log2 < 1920 := by
  by_cases z : i.natAbs = 0
  · rw [z]; decide
  · rw [Nat.log2_lt z]
    exact Nat.lt_of_lt_of_le (show i.natAbs < 2 ^ 40 by omega) (Nat.pow_le_pow_right (by decide) (by decide))
theorem int_len {i : Int} (h : i.natAbs < 10 ^ 10) : (Str.ofString (toString i)).length ≤ 1921 := PyProof.Rows.int_text_len_1921 (log_small h)
theorem ln {a b : Str} {n m k : Nat} (h1 : a.length ≤ n) (h2 : b.length ≤ m) (h : n + m ≤ k) : (a ++ b).length ≤ k := by
  rw [strLen_append]
  omega
theorem ok_RP {f : Addr} (D : MetAt K C "__repr__" "Blend.__repr__" s_Blend___repr__ ["self"] f) (T : T1 K w mg C aL aP tl) : ∃ fd, Meth K C "__repr__" f ∧ Fun K "__repr__" "Blend.__repr__" s_Blend___repr__ f fd ∧ Binds K fd ["self"] [] ∧ FnOk P w K mg base CX0 1 f fd ["self"] (spRp C) := by
  obtain ⟨fd, a, F, b⟩ := D.ex
  refine ⟨fd, a, F, b, F.ok sc_Blend___repr__ (fun vs H Q E h => ?_) (fun cdv A outer s H vs Q E rm h => ?_)⟩
  · obtain ⟨x, b, rfl, _⟩ := h
    rfl
  · obtain ⟨x, b, rfl, hx, ok, q⟩ := h
    obtain ⟨dx, hx⟩ := at_fld hx
    have cl := T.cl
    have nW := T.nW
    have nS := T.nS
    have nK := T.nK
    have nF := T.nF
    obtain ⟨b1, b2, b3, b4⟩ := num_len ok
    have e0 : (Str.empty ++ ("Blend(" : Str)).length ≤ 6 := ln (n := 0) (m := 6) (Nat.le_refl _) (by decide) (by decide)
    have e1 := ln e0 (int_len b1) (k := 2000) (by decide)
    have e2 := ln e1 (b := (", " : Str)) (m := 2) (k := 2010) (by decide) (by decide)
    have e3 := ln e2 (int_len b2) (k := 4000) (by decide)
    have e4 := ln e3 (b := (", " : Str)) (m := 2) (k := 4010) (by decide) (by decide)
    have e5 := ln e4 (int_len b3) (k := 6000) (by decide)
    have e6 := ln e5 (b := (", " : Str)) (m := 2) (k := 6010) (by decide) (by decide)
    have e7 := ln e6 (int_len b4) (k := 8000) (by decide)
    have e8 := ln e7 (b := (")" : Str)) (m := 1) (k := 8010) (by decide) (by decide)
    have big : ∀ {n k : Nat}, n ≤ k → k ≤ 10000 → n ≤ sizeLine := fun h k => Nat.le_trans h (Nat.le_trans k (by decide))
    refine ⟨_, (pss_one (ps_ret (pe_joined (.cons pe_str (.cons (pe_fmt (pe_fld (pv 0) rfl)) (.cons pe_str (.cons (pe_fmt (pe_fld (pv 0) rfl)) (.cons pe_str (.cons (pe_fmt (pe_fld (pv 0) rfl)) (.cons pe_str (.cons (pe_fmt (pe_fld (pv 0) rfl)) (.cons pe_str .nil)))))))))))), ?_⟩
    refine ⟨"Blend(", rfl, big e0 (by decide), ?_⟩
    refine ⟨_, rfl, x, C, dx, _, _, rfl, hx, cl, nW, rfl, .inr ⟨b.w, rfl, log_small b1, _, rfl, big e1 (by decide), ", ", rfl, big e2 (by decide), ?_⟩⟩
    refine ⟨_, rfl, x, C, dx, _, _, rfl, hx, cl, nS, rfl, .inr ⟨b.s, rfl, log_small b2, _, rfl, big e3 (by decide), ", ", rfl, big e4 (by decide), ?_⟩⟩
    refine ⟨_, rfl, x, C, dx, _, _, rfl, hx, cl, nK, rfl, .inr ⟨b.k, rfl, log_small b3, _, rfl, big e5 (by decide), ", ", rfl, big e6 (by decide), ?_⟩⟩
    exact ⟨_, rfl, x, C, dx, _, _, rfl, hx, cl, nF, rfl, .inr ⟨b.f, rfl, log_small b4, _, rfl, big e7 (by decide), ")", rfl, big e8 (by decide), q⟩⟩
end
end Law

set_option Elab.async false
set_option linter.all false
set_option maxRecDepth 100000
set_option maxHeartbeats 4000000
namespace Law
open PySem PySem.Spec PySem.Calls PyProof.Rows L2 KG LamX
local macro_rules | `(tactic| walk_at "1") => `(tactic| first
  | (with_reducible refine w_var rfl ?_) | (with_reducible refine w_c ?_) | (with_reducible refine w_seq ?_) | (with_reducible refine w_asg ?_) | (with_reducible refine w_gname ?_) | (with_reducible refine w_op ?_) | (with_reducible refine w_un ?_)
  | (with_reducible refine w_add ?_) | (with_reducible refine w_sub ?_) | ((with_reducible refine' w_mod ?mo ?_); (case mo => first | assumption | decide | omega)) | (with_reducible refine w_and ?_) | (with_reducible refine w_or ?_) | (with_reducible refine w_xor ?_)
  | (with_reducible refine w_gt ?_) | (with_reducible refine w_lt ?_) | (with_reducible refine w_ge ?_) | (with_reducible refine w_le ?_) | ((with_reducible refine' w_eq ?sc ?_); (case sc => rfl)) | ((with_reducible refine' w_ne ?sc ?_); (case sc => rfl))
  | (with_reducible refine w_ret ?_) | (with_reducible refine w_next ?_) | (with_reducible refine w_ifs ?_) | (with_reducible refine w_ifx ?_) | (with_reducible refine w_test ?_) | (with_reducible refine w_tB ?_) | (with_reducible refine w_bl ?_)
  | ((with_reducible refine' w_ixL ?ixh ?ixa ?_); (case ixh => first | exact SqL.of (by assumption)); (case ixa => first | rfl | skip)) | ((with_reducible refine' w_ixT ?ixh ?ixa ?_); (case ixh => first | exact SqT.of (by assumption)); (case ixa => first | rfl | skip))
  | ((with_reducible refine' w_fld ?_)) | ((with_reducible refine' fld ?fh ?fc ?fn ?fl ?_); (case fh => assumption); (case fc => assumption); (case fn => assumption); (case fl => rfl)) | (with_reducible refine w_sfld ?_)
  | (with_reducible refine Or.inl ⟨_, rfl, ?_⟩) | (with_reducible refine w_gsub ?_) | (with_reducible refine w_andV ?_) | (with_reducible refine w_orV ?_)
  | (with_reducible refine w_nil ?_) | (with_reducible refine w_cons ?_) | (with_reducible refine w_tup ?_) | (with_reducible refine w_lst ?_) | (with_reducible refine w_and2 ?_) | (with_reducible refine w_or2 ?_) | (with_reducible refine w_not ?_) | (with_reducible refine w_cb ?_) | (with_reducible refine w_call ?_) | (with_reducible refine w_par ?_) | (with_reducible refine w_pnil ?_) | (with_reducible refine w_pcons ?_) | (with_reducible refine w_dput ?_) | (with_reducible refine w_dget ?_) | (with_reducible refine w_for ?_) | (with_reducible refine w_itup ?_) | (with_reducible refine w_ilist ?_) | (with_reducible refine w_irng ?_) | (with_reducible refine w_meth ?_) | (with_reducible refine w_make ?_) | (with_reducible refine w_makeK ?_) | (with_reducible refine w_methK ?_) | ((with_reducible refine' mth ?mh ?ml ?_); (case mh => assumption); (case ml => rfl)) | (with_reducible refine w_drop ?_))
local macro_rules | `(tactic| walk_at "go") => `(tactic| ((repeat (walk_at "1")); try dsimp only))
local macro_rules | `(tactic| walk_at "1") => `(tactic| first
  | (with_reducible refine w_notV ?_) | (with_reducible refine w_callK ?_) | (with_reducible refine w_lc ?_) | (with_reducible refine w_chain ?_) | (with_reducible refine w_neg ?_) | ((with_reducible refine' w_shr ?mo ?_); (case mo => first | assumption | omega)))
/-! ### heard: what an asked call returns, or its error -/
/-- the six names -/
def ceN : Nat → Str
  | 0 => "InvalidWidth"
  | 1 => "InvalidLane"
  | 2 => "InvalidWord"
  | 3 => "InvalidShift"
  | 4 => "InvalidKind"
  | _ => "InvalidLetters"
/-- .. and what heard calls them -/
def ceT : Nat → Str
  | 0 => "width"
  | 1 => "lane"
  | 2 => "word"
  | 3 => "shift"
  | _ => "kind"
/-- what the text knows of the errors: BE the base, ce i the class of the name i -/
structure Er (K : PySem.W.Frag) (mg : Str → Option Value) (BE : Addr) (ce : Nat → Addr) : Prop where
  g_BitError : mg "BitError" = some (.ref BE)
  g_ValueError : mg "ValueError" = none
  g_isinstance : mg "isinstance" = none
  g_repr : mg "repr" = none
  g_ce : ∀ i, i < 6 → mg (ceN i) = some (.ref (ce i))
  exm : ∀ i, i < 5 → PySem.W.exmOne K (.ref (ce i)) (.ref BE) = some true
  ec : ∀ i, i < 5 → ExcC K (ce i)
  xf : ∀ i, i < 5 → XfC K (ce i)
  nv : ∀ i, i < 5 → PySem.W.findIn K (.ref (ce i)) "value" = some none
  kit : ∀ i j, i < 5 → j < 6 → PySem.W.kitOne K (.ref (ce i)) (.ref (ce j)) = some (decide (i = j))
  ve : ∀ i, i < 5 → PySem.W.kitOne K (.ref (ce i)) (.type "ValueError") = some true
/-- the body of the try -/
def tAct (f c' : Addr) (q : Str) (tl : XK → Hp → VK → Prop) (W : WX) : TE := fun σ H Q => σ[0]? = some (some (.ref f)) ∧ H c' = some (CodeO c' q) ∧ ∃ E : XK, (∀ cls d H', E cls d H' → W cls d σ H') ∧ tl E H Q
def rReprB (C : Addr) : List V → Hp → VK → Prop := fun xs H Q => rReprA xs H Q ∨ ∃ l a bq, xs = [.ref l] ∧ H l = some (.lst [.str "told", .ref a]) ∧ BlAt C H a bq ∧ bq.ok = true ∧ ∀ H', Same H H' → Q (.str (listText [reprText "told", rp bq])) H'
theorem rp_len {b : Bq} (h : b.ok = true) : (rp b).length ≤ 8010 := by
  obtain ⟨b1, b2, b3, b4⟩ := num_len h
  have e0 : (Str.empty ++ ("Blend(" : Str)).length ≤ 6 := ln (n := 0) (m := 6) (Nat.le_refl _) (by decide) (by decide)
  have e1 := ln e0 (int_len b1) (k := 2000) (by decide)
  have e2 := ln e1 (b := (", " : Str)) (m := 2) (k := 2010) (by decide) (by decide)
  have e3 := ln e2 (int_len b2) (k := 4000) (by decide)
  have e4 := ln e3 (b := (", " : Str)) (m := 2) (k := 4010) (by decide) (by decide)
  have e5 := ln e4 (int_len b3) (k := 6000) (by decide)
  have e6 := ln e5 (b := (", " : Str)) (m := 2) (k := 6010) (by decide) (by decide)
  have e7 := ln e6 (int_len b4) (k := 8000) (by decide)
  exact ln e7 (b := (")" : Str)) (m := 1) (k := 8010) (by decide) (by decide)
theorem told_len {b : Bq} (h : b.ok = true) : (listText [reprText "told", rp b]).length ≤ 9000 := by
  have l := listText_len_le [reprText "told", rp b]
  have e := rp_len h
  have t : (reprText "told").length = 6 := by decide +kernel
  simp only [List.map_cons, List.map_nil, List.sum_cons, List.sum_nil, List.length_cons, List.length_nil, t] at l
  omega
theorem call_reprB {X : Cx} {C f : Addr} {fd : FuncData} {k : Nat} (F : FnOk X.prog X.w X.K X.mg X.base CX0 1 f fd ["self"] (spRp C)) (hs : PySem.W.findIn X.K (.ref C) "__repr__" = some (some (.ref f))) (hf : PySem.W.isFn X.K (.ref f) = true) (hb : Binds X.K fd ["self"] []) (rm : Room (k + 3) X.A) (gd : X.A.guards = some []) : CallR X (.builtin "repr") (rReprB C) := by
  intro pins s σ H xs us Q I r h
  rcases h with h | ⟨l, a, bq, rfl, hl, ha, ok, q⟩
  · exact call_reprA (k := k + 3) rm gd pins s σ H xs us Q I r h
  · refine call_reprL (k := 1) (rm.mono (by omega)) gd pins s σ H _ us Q I r ⟨l, _, [reprText "told", rp bq], rfl, hl, by simp, .cons (itR_str "told" (by decide +kernel)) (.cons (itR_own F hs hf hb (E0 := fun _ _ _ => False) fun H' hT => ?_) .nil), Nat.le_trans (told_len ok) (by decide), q⟩
    obtain ⟨dx, ha⟩ := ha
    exact ⟨dx, _, hT _ _ ha, a, bq, rfl, ⟨dx, hT _ _ ha⟩, ok, rfl, rfl⟩
def tbH (C f c' : Addr) (q : Str) (tl : XK → Hp → VK → Prop) : WX → TS := fun W => tRet (tCB (rReprB C) (tCons (tLst (tCons (tC (.str "told")) (tCons (tAct f c' q tl W) tNil))) tNil))
/-- heard, of the lambda's reading -/
def HErr (ce : Nat → Addr) (Q : VK) : XK := fun cls d H => ∃ (i : Nat) (dd : Addr) (y : V) (e : PyData), i < 5 ∧ cls = .ref (ce i) ∧ d = some dd ∧ H dd = some (.xd [("value", y)]) ∧ (∀ H2, Same H H2 → Da H2 y e) ∧ (e.hasDict = true → ∀ H2, Same H H2 → Dn H2 y e) ∧ (PyData.list [.str (ceT i), e]).showable = true ∧ (PyData.list [.str (ceT i), e]).depth ≤ 40 ∧
  (PyData.list [.str (ceT i), e]).shown.length ≤ sizeLine ∧ ∀ H2, Same H H2 → Q (.str (PyData.list [.str (ceT i), e]).shown) H2
def HTold (C : Addr) (Q : VK) : VK := fun v H => (∃ a b, v = .ref a ∧ BlAt C H a b ∧ b.ok = true ∧ ∀ H2, Same H H2 → Q (.str (listText [reprText "told", rp b])) H2) ∨ ∃ e : PyData, (∀ H2, Same H H2 → Da H2 v e) ∧ e.hasDict = false ∧ (PyData.list [.str "told", e]).showable = true ∧ (PyData.list [.str "told", e]).depth ≤ 40 ∧
  (PyData.list [.str "told", e]).shown.length ≤ sizeLine ∧ ∀ H2, Same H H2 → Q (.str (PyData.list [.str "told", e]).shown) H2
def THeard (C : Addr) (ce : Nat → Addr) : (XK → Hp → VK → Prop) → Hp → VK → Prop := fun tl H Q => ∀ (E' : XK) (Q' : VK), (∀ cls d H', HErr ce Q cls d H' → E' cls d H') → (∀ v H', HTold C Q v H' → Q' v H') → tl E' H Q'
/-- the marks of an error of the class i -/
def marksL (i : Nat) : List V := [.bl (decide (i = 0)), .bl (decide (i = 1)), .bl (decide (i = 2)), .bl (decide (i = 3)), .bl (decide (i = 4)), .bl (decide (i = 5))]
theorem marks_count : ∀ i, i < 5 → ((marksL i).countP fun z => eqV z (.bl true)) = 1 := by decide
theorem marks_at : ∀ i, i < 5 → (marksL i)[i]? = some (.bl true) := by decide
theorem marks_no : ∀ i, i < 5 → ∀ m, m < i → (marksL i)[m]? = some (.bl false) := by decide
theorem marks_5 : ∀ i, i < 5 → atI (marksL i) 5 = some (.bl false) := by decide
theorem names_at : ∀ i : Nat, i < 5 → atI [.str "width", .str "lane", .str "word", .str "shift", .str "kind"] (i : Int) = some (V.str (ceT i)) := by decide
theorem heard_gives {X : Cx} {BE C fR : Addr} {fdR : FuncData} {ce : Nat → Addr} {k : Nat} (B : Er X.K X.mg BE ce) (FR : FnOk X.prog X.w X.K X.mg X.base CX0 1 fR fdR ["self"] (spRp C)) (hsR : PySem.W.findIn X.K (.ref C) "__repr__" = some (some (.ref fR))) (hfR : PySem.W.isFn X.K (.ref fR) = true) (hbR : Binds X.K fdR ["self"] []) (rm2 : Room (k + 4) X.A) (gd2 : X.A.guards = some []) : Gives X "_law_heard" s__law_heard "_law_ask" (THeard C ce) := by
  refine ⟨_, sc__law_heard, rfl, .inl (by decide +kernel), fun g cd f c' s H Q tl act hc h => ?_⟩
  have rm : Room (k + 3) (inDef X ["_law_ask", "_law_caught", "error", "_law_marks"] "_law_heard" s__law_heard g cd s H).A := rm2.deeper _
  have gd : (inDef X ["_law_ask", "_law_caught", "error", "_law_marks"] "_law_heard" s__law_heard g cd s H).A.guards = some [] := gd2
  refine ⟨_, (pss_cons (ps_set (i := 1) sc__law_heard.nd rfl (Or.inl rfl) pe_non)
    (pss_cons (ps_try_keep (tb := tbH C f c' (X.env.qual ++ "<lambda>") tl) (ts := fun a cls d => tAsg (tVar 2) (fun v σ H QS => gName 1 v σ H QS)) rfl rfl rfl sc__law_heard.nd (i := 2) rfl rfl ⟨rfl, by decide, .inl B.g_BitError⟩ L2.takes0 ?hb ?hsu)
    (pss_cons (ps_set (i := 3) sc__law_heard.nd rfl (Or.inl rfl) (pe_lst (pa_cons (pe_callB call_isErr (by rfl) B.g_isinstance (by decide +kernel) (pa_cons (pv 1) (pa_cons (pe_glob (v := .ref (ce 0)) rfl (B.g_ce 0 (by decide)) rfl) pa_nil))) (pa_cons (pe_callB call_isErr (by rfl) B.g_isinstance (by decide +kernel) (pa_cons (pv 1) (pa_cons (pe_glob (v := .ref (ce 1)) rfl (B.g_ce 1 (by decide)) rfl) pa_nil))) (pa_cons (pe_callB call_isErr (by rfl) B.g_isinstance (by decide +kernel) (pa_cons (pv 1) (pa_cons (pe_glob (v := .ref (ce 2)) rfl (B.g_ce 2 (by decide)) rfl) pa_nil))) pa_nil)))))
    (pss_cons (ps_set (i := 3) sc__law_heard.nd rfl (Or.inl rfl) (pe_op op_cat (pv 3) (pe_lst (pa_cons (pe_callB call_isErr (by rfl) B.g_isinstance (by decide +kernel) (pa_cons (pv 1) (pa_cons (pe_glob (v := .ref (ce 3)) rfl (B.g_ce 3 (by decide)) rfl) pa_nil))) (pa_cons (pe_callB call_isErr (by rfl) B.g_isinstance (by decide +kernel) (pa_cons (pv 1) (pa_cons (pe_glob (v := .ref (ce 4)) rfl (B.g_ce 4 (by decide)) rfl) pa_nil))) pa_nil)))))
    (pss_cons (ps_expr (pe_bm PySem.F.plainAttrs_list PySem.F.slot_list_append PySem.F.type_list_append mt_append (pv 3) (pa_cons (pe_callB call_isErr (by rfl) B.g_isinstance (by decide +kernel) (pa_cons (pv 1) (pa_cons (pe_glob (v := .ref (ce 5)) rfl (B.g_ce 5 (by decide)) rfl) pa_nil))) pa_nil)))
    (pss_mid (ps_if (PW.pt (pw_or (pt_cmpR op_ne (pe_bm PySem.F.plainAttrs_list PySem.F.slot_list_count PySem.F.type_list_count mt_countF (pv 3) (pa_cons pe_bl pa_nil)) pe_int (nomark _)) (pw_or1 (pt_not (pt_val (pe_callB call_isErr (by rfl) B.g_isinstance (by decide +kernel) (pa_cons (pv 1) (pa_cons (pe_bltn (v := .ty "ValueError") rfl B.g_ValueError (by decide +kernel) rfl) pa_nil))))))))
      (pss_one (ps_ret pe_str))
      pss_nil)
    (pss_cons (ps_if (pt_val (pe_ix ix_list (pv 3) pe_int (fun _ _ => rfl)))
      (pss_one (ps_ret (pe_callB (call_reprA rm gd) (by rfl) B.g_repr (by decide +kernel) (pa_cons (pe_lst (pa_cons pe_str (pa_cons (pe_errf (pv 1)) pa_nil))) pa_nil))))
      pss_nil)
    (pss_one (ps_ret (pe_callB (call_reprA rm gd) (by rfl) B.g_repr (by decide +kernel) (pa_cons (pe_lstB (pa_cons (pe_ix ix_list (pe_lst (pa_cons pe_str (pa_cons pe_str (pa_cons pe_str (pa_cons pe_str (pa_cons pe_str pa_nil)))))) (pe_bm PySem.F.plainAttrs_list PySem.F.slot_list_index PySem.F.type_list_index mt_index (pv 3) (pa_cons pe_bl pa_nil)) (fun _ _ => rfl)) (pa_cons (pe_errf (pv 1)) pa_nil))) pa_nil))))))))))), ?_⟩
  case hb =>
    intro W pn xe tk _
    exact pss_one (ps_ret (pe_callB (call_reprB (k := k) FR hsR hfR hbR rm gd) (by rfl) B.g_repr (by decide +kernel) (pa_cons (pe_lst (pa_cons pe_str (pa_cons (act W pn xe _ _ tk) pa_nil))) pa_nil)))
  case hsu =>
    intro a oe cls d pn _ _
    exact pss_one (ps_set (i := 1) sc__law_heard.nd rfl (Or.inl rfl) (pv 2))
  walk_at "go"
  show tbH _ _ _ _ _ _ _ _ _
  unfold tbH
  walk_at "go"
  refine ⟨rfl, hc, _, fun _ _ _ z => z, h _ _ (fun cls d H1 hE => ?_) (fun v H1 hQ => ?_)⟩
  · obtain ⟨i, dd, y, e, hi, rfl, rfl, hdd, hy, hn, sh, dp, sz, q⟩ := hE
    refine ⟨true, B.exm i (by omega), fun _ a na => ?_, fun z => by cases z⟩
    walk_at "go"
    have hi6 : i < 6 := by omega
    have l2 : 2 ≤ sizeLine := by decide
    have l3 : 3 ≤ sizeLine := by decide
    have l5 : 5 ≤ sizeLine := by decide
    have lt5 : 5 < sizeLine := by decide
    have da : dd ≠ a := ne_of_none hdd na
    have ea : upd H1 a (ErrO (.ref (ce i)) (some dd) a) a = some (ErrO (.ref (ce i)) (some dd) a) := upd_same
    have ed : upd H1 a (ErrO (.ref (ce i)) (some dd) a) dd = some (.xd [("value", y)]) := (upd_ne da).trans hdd
    have sm : Same H1 (upd H1 a (ErrO (.ref (ce i)) (some dd) a)) := fun b o z => (upd_ne (ne_of_none z na)).trans z
    generalize upd H1 a (ErrO (.ref (ce i)) (some dd) a) = H2 at ea ed sm
    refine w_isE ea ed (B.ec i hi) (fun u r => r) (B.kit i 0 hi (by decide)) ?_
    walk_at "go"
    refine w_isE ea ed (B.ec i hi) (fun u r => r) (B.kit i 1 hi (by decide)) ?_
    walk_at "go"
    refine w_isE ea ed (B.ec i hi) (fun u r => r) (B.kit i 2 hi (by decide)) ?_
    walk_at "go"
    refine new l3 fun p1 H3 n1 h1 s1 => ?_
    walk_at "go"
    refine w_isE (s1 _ _ ea) (s1 _ _ ed) (B.ec i hi) (fun u r => r) (B.kit i 3 hi (by decide)) ?_
    walk_at "go"
    refine w_isE (s1 _ _ ea) (s1 _ _ ed) (B.ec i hi) (fun u r => r) (B.kit i 4 hi (by decide)) ?_
    walk_at "go"
    refine new l2 fun p2 H4 n2 h2 s2 => ?_
    walk_at "go"
    refine w_cat (s2 _ _ h1) h2 rfl l5 fun p3 H5 n3 h3 s3 => ?_
    walk_at "go"
    have sm5 : Same H2 H5 := fun b o z => s3 b o (s2 b o (s1 b o z))
    have ea5 := sm5 _ _ ea
    have ed5 := sm5 _ _ ed
    have sm15 : Same H1 H5 := fun b o z => sm5 b o (sm b o z)
    have np3 : ∀ b o, H2 b = some o → b ≠ p3 := fun b o z => ne_of_none (s2 b o (s1 b o z)) n3
    refine w_bm ?_
    walk_at "go"
    refine ⟨ty_list h3, ?_⟩
    walk_at "go"
    refine w_isE ea5 ed5 (B.ec i hi) (fun u r => r) (B.kit i 5 hi (by decide)) ?_
    walk_at "go"
    refine w_app (ys := marksL i) h3 lt5 rfl fun H6 h6 e6 => ?_
    have ea6 : H6 a = _ := (e6 a (np3 _ _ ea)).trans ea5
    have ed6 : H6 dd = _ := (e6 dd (np3 _ _ ed)).trans ed5
    have sm6 : Same H1 H6 := fun b o z => (e6 b (np3 _ _ (sm b o z))).trans (sm15 b o z)
    clear e6 h3 n3 s3 sm15 sm5 ea5 ed5 np3 h2 s2 n2 h1 s1 n1
    walk_at "go"
    refine w_mid (fun σ' H' => σ'[1]? = some (some (.ref a)) ∧ σ'[3]? = some (some (.ref p3)) ∧ H' = H6) ?_ fun σ' H' ⟨g1, g3, e⟩ => ?_
    · have cnt := marks_count i hi
      walk_at "go"
      refine w_bm ?_
      walk_at "go"
      refine ⟨ty_list h6, ?_⟩
      walk_at "go"
      refine w_count h6 rfl rfl cnt ?_
      walk_at "go"
      rw [if_neg (show ¬ ((!decide (V.int ((1 : Nat) : Int) = V.int 1)) = true) by decide)]
      walk_at "go"
      refine w_isE (c := .ty "ValueError") ea6 ed6 (B.ec i hi) (fun u r => r) (B.ve i hi) ?_
      walk_at "go"
      rw [if_neg (show ¬ ((!true) = true) by decide)]
      exact ⟨rfl, rfl, rfl⟩
    · subst e
      walk_at "go"
      refine w_var g3 ?_
      walk_at "go"
      have n5 : ¬ (decide (i = 5) = true) := by
        rw [decide_eq_true_eq]
        omega
      rw [if_neg n5]
      walk_at "go"
      refine w_lstB ?_
      walk_at "go"
      refine new l5 fun p4 H7 n4 h4 s4 => ?_
      walk_at "go"
      refine w_bm ?_
      refine w_var g3 ?_
      refine ⟨ty_list (s4 _ _ h6), ?_⟩
      walk_at "go"
      refine ⟨p3, _, .bl true, i, .bl true, rfl, rfl, SqL.of (s4 _ _ h6), rfl, rfl, marks_at i hi, rfl, fun m z' hm hz => ?_, ?_⟩
      · rw [marks_no i hi m hm] at hz
        cases hz
        rfl
      refine w_ixL (SqL.of h4) (names_at i hi) ?_
      walk_at "go"
      refine w_errf ?_
      refine w_var g1 ?_
      refine ⟨a, ce i, dd, _, y, rfl, s4 _ _ ea6, s4 _ _ ed6, B.xf i hi, B.nv i hi, rfl, ?_⟩
      walk_at "go"
      refine newB l2 fun p5 H8 n5 m5 h5 s5 => ?_
      walk_at "go"
      have s8 : Same H1 H8 := fun b o z => s5 b o (s4 b o (sm6 b o z))
      exact ⟨.ref p5, .list [.str (ceT i), e], rfl, Da.lst h5 (.cons (.str _) (.cons (hy _ s8) .nil)), fun z => Dn.two h5 m5 (hn (by simpa [PyData.hasDict, PyData.hasDictAll] using z) _ s8), sh, dp, sz, q _ s8⟩
  · rcases hQ with ⟨a, bq, rfl, hb1, hb2, q⟩ | ⟨e, he, hn, sh, dp, sz, q⟩
    · walk_at "go"
      refine new (show 2 ≤ sizeLine by decide) fun p H2 np hp sm => ?_
      walk_at "go"
      exact .inr ⟨p, a, bq, rfl, hp, hb1.same sm, hb2, fun H3 z => q H3 (sm.trans z)⟩
    · walk_at "go"
      refine new (show 2 ≤ sizeLine by decide) fun p H2 np hp sm => ?_
      walk_at "go"
      exact .inl ⟨.ref p, .list [.str "told", e], rfl, Da.lst hp (.cons (.str _) (.cons (he H2 sm) .nil)), fun z => (by simp [PyData.hasDict, PyData.hasDictAll, hn] at z), sh, dp, sz, q H2 sm⟩
/-- what is tracked stays, but at p -/
def Kp (p : Addr) (H H' : Hp) : Prop := ∀ b o, H b = some o → b ≠ p → H' b = some o
/-- the pen at p -/
def PenC (n : Nat) (p l : Addr) (cells : List Int) (H : Hp) : Prop := cells.length ≤ 63 ∧ H l = some (.lst (cells.map V.int)) ∧ ∃ (a : Nat) (r : Int), a ≤ n ∧ H p = some (.lst [.ref l, .int a, .int r])
def spDraw : Sp := fun vs H Q _ => ∃ (p l : Addr) (cells : List Int) (n : Nat) (m : Int), vs = [.ref p, .int m] ∧ PenC n p l cells H ∧ n ≤ 100000 ∧ 0 < m ∧ m < 1073741824 ∧
  ∀ (d : Int) (H' : Hp), 0 ≤ d → d < m → PenC (n + 1) p l cells H' → Kp p H H' → Q (.int d) H'
structure Bi (mg : Str → Option Value) : Prop where
  g_int : mg "int" = none
  g_len : mg "len" = none
  g_abs : mg "abs" = none
  g_list : mg "list" = none
  g_repr : mg "repr" = none
  g_range : mg "range" = none
  g_str : mg "str" = none
theorem dp_ints {K : PySem.W.Frag} {H : Hp} : ∀ ns : List Int, DpAll K H (ns.map V.int) (ns.map PyData.int)
  | [] => .nil
  | n :: ns => .cons (.int n) (dp_ints ns)
theorem sh_ints (ns : List Int) : SeqAt.shaped (.list (ns.map PyData.int)) = true := by
  have h1 : ∀ ns : List Int, PyData.canLayAll0 (ns.map PyData.int) = true := fun ns => by
    induction ns with
    | nil => simp [PyData.canLayAll0]
    | cons a as ih => simp only [List.map_cons, PyData.canLayAll0, PyData.canLay0, ih, Bool.and_self]
  have h2 : ∀ ns : List Int, PyData.depthAll (ns.map PyData.int) = 0 := fun ns => by
    induction ns with
    | nil => simp [PyData.depthAll]
    | cons a as ih => simp only [List.map_cons, PyData.depthAll, PyData.depth, ih, Nat.max_self]
  unfold SeqAt.shaped
  simp only [PyData.canLay0, PyData.depth, h1, h2]
  decide
theorem at_int {cells : List Int} {i : Int} (h0 : 0 ≤ i) (h1 : i < (cells.length : Int)) : ∃ c : Int, atI (cells.map V.int) i = some (.int c) := by
  have h : i.toNat < cells.length := by omega
  refine ⟨cells[i.toNat], at_of (j := i.toNat) (by omega) ?_⟩
  rw [List.getElem?_map, List.getElem?_eq_getElem h]
  rfl
section
variable {P : Program} {w : World} {K : PySem.W.Frag} {mg : Str → Option Value} {base : Heap}
theorem ok_draw (D : DefAt K mg "_law_draw" s__law_draw ["_law_pen_here", "_law_many"]) (B : Bi mg) : Cal P w K mg base 1 "_law_draw" spDraw := by
  refine D.cal sc__law_draw (fun vs H Q E h => ?_) (fun f cdv A outer s H vs Q E rm gd h => ?_)
  · obtain ⟨p, l, cells, n, m, rfl, _⟩ := h
    rfl
  · obtain ⟨p, l, cells, n, m, rfl, ⟨hc, hl, a, r, ha, hp⟩, hn, hm, hm2, k⟩ := h
    have hpl : p ≠ l := ne_of hp hl (by
      intro z
      cases cells with
      | nil => cases z
      | cons c cs => injection z with z; injection z with z; cases z)
    refine ⟨_, (pss_cons (ps_if (pt_cmpR op_gt (pe_ix ix_list (pv 0) pe_int (fun _ _ => rfl)) pe_int (nomark _))
      (pss_cons (ps_set (i := 2) sc__law_draw.nd rfl (Or.inl rfl) (pe_op op_mod (pe_callTy call_int1 (by rfl) B.g_int (by decide +kernel) (pa_cons (pe_ix ix_list (pv 0) pe_int (fun _ _ => rfl)) pa_nil)) (pv 1)))
      (pss_cons (ps_asg (pe_op op_fdiv (pe_callTy call_int1 (by rfl) B.g_int (by decide +kernel) (pa_cons (pe_ix ix_list (pv 0) pe_int (fun _ _ => rfl)) pa_nil)) (pv 1)) (pg_sub (pv 0) pe_int set_list))
      (pss_one (ps_ret (pv 2)))))
      pss_nil)
    (pss_cons (ps_set (i := 3) sc__law_draw.nd rfl (Or.inl rfl) (pe_ix ix_list (pv 0) pe_int (fun _ _ => rfl)))
    (pss_cons (ps_asg (pe_op op_add (pv 3) pe_int) (pg_sub (pv 0) pe_int set_list))
    (pss_cons (ps_set (i := 4) sc__law_draw.nd rfl (Or.inl rfl) (pe_op op_add (pe_op op_mul pe_int (pv 3)) pe_int))
    (pss_mid (ps_if (pt_cmpR (op_neD rm.units) (pe_ix ix_list (pv 0) pe_int (fun _ _ => rfl)) (pe_lst pa_nil) (nomark _))
      (pss_one (ps_set (i := 4) sc__law_draw.nd rfl (Or.inl rfl) (pe_ix ix_list (pe_ix ix_list (pv 0) pe_int (fun _ _ => rfl)) (pe_op op_mod (pe_callTy call_int1 (by rfl) B.g_int (by decide +kernel) (pa_cons (pv 3) pa_nil)) (pe_callB call_len_seq (by rfl) B.g_len (by decide +kernel) (pa_cons (pe_ix ix_list (pv 0) pe_int (fun _ _ => rfl)) pa_nil))) (fun _ _ => rfl))))
      pss_nil)
    (pss_mid (ps_if (PW.pt (pw_and (pt_cmpR op_lt (pv 3) (pe_callB call_len_seq (by rfl) B.g_len (by decide +kernel) (pa_cons (pe_ix ix_list (pv 0) pe_int (fun _ _ => rfl)) pa_nil)) (nomark _)) (pw_and1 (pt_cmpR op_ge (pe_callB call_abs (by rfl) B.g_abs (by decide +kernel) (pa_cons (pv 4) pa_nil)) (pe_op op_pow pe_int pe_int) (nomark _)))))
      (pss_cons (ps_set (i := 5) sc__law_draw.nd rfl (Or.inl rfl) (pe_op op_add (pe_op op_mul pe_int (pe_callB call_abs (by rfl) B.g_abs (by decide +kernel) (pa_cons (pv 4) pa_nil))) (pe_callTy call_int1 (by rfl) B.g_int (by decide +kernel) (pa_cons (pe_cmpR op_lt (pv 4) pe_int (nomark _)) pa_nil))))
      (pss_cons (ps_asg (pe_op op_fdiv (pv 5) (pv 1)) (pg_sub (pv 0) pe_int set_list))
      (pss_one (ps_ret (pe_op op_mod (pe_callTy call_int1 (by rfl) B.g_int (by decide +kernel) (pa_cons (pv 5) pa_nil)) (pv 1))))))
      pss_nil)
    (pss_cons (ps_set (i := 6) sc__law_draw.nd rfl (Or.inl rfl) (pe_op op_mod (pe_op op_pow (pe_callTy call_int1 (by rfl) B.g_int (by decide +kernel) (pa_cons (pe_op op_add (pe_op op_add (pe_op op_mod (pe_callTy call_int1 (by rfl) B.g_int (by decide +kernel) (pa_cons (pv 4) pa_nil)) pe_int) (pe_op op_mul pe_int (pv 3))) pe_int) pa_nil)) pe_int) pe_int))
    (pss_cons (ps_set (i := 6) sc__law_draw.nd rfl (Or.inl rfl) (pe_op op_mod (pe_op op_pow (pe_callTy call_int1 (by rfl) B.g_int (by decide +kernel) (pa_cons (pe_op op_add (pe_op op_add (pe_op op_mul (pv 6) (pe_op op_add (pv 3) pe_int)) (pe_op op_mul (pe_op op_mul pe_int (pv 3)) (pv 3))) pe_int) pa_nil)) pe_int) pe_int))
    (pss_one (ps_ret (pe_op op_mod (pe_callTy call_int1 (by rfl) B.g_int (by decide +kernel) (pa_cons (pe_op op_fdiv (pv 6) pe_int) pa_nil)) (pv 1)))))))))))), ?_⟩
    walk_at "go"
    refine ite2 (fun h0 => ?_) (fun h0 => ?_)
    · walk_at "go"
      refine w_fdiv ⟨hm, hm2⟩ ?_
      walk_at "go"
      refine w_setG hp rfl rfl fun H1 hp1 e1 => ?_
      walk_at "go"
      refine k _ _ (Int.emod_nonneg _ (by omega)) (Int.emod_lt_of_pos _ hm) ⟨hc, (e1 l hpl.symm).trans hl, a, r / m, by omega, hp1⟩ fun b o e nb => (e1 b nb).trans e
    · walk_at "go"
      refine w_setG hp rfl rfl fun H1 hp1 e1 => ?_
      have hl1 : H1 l = some (.lst (cells.map V.int)) := (e1 l hpl.symm).trans hl
      have hp1 : H1 p = some (.lst [.ref l, .int ((a + 1 : Nat) : Int), .int r]) := hp1
      walk_at "go"
      refine w_mul (.inl ⟨by omega, by omega⟩) ?_
      walk_at "go"
      refine ⟨fun σ' H' => Same H1 H' ∧ ∃ c : Int, σ' = [some (.ref p), some (.int m), none, some (.int a), some (.int c), none, none], ?_, ?_⟩
      · walk_at "go"
        refine new (by decide) fun z H2 nz hz s2 => ?_
        have hp2 := s2 _ _ hp1
        have hl2 := s2 _ _ hl1
        refine ⟨.list (cells.map .int), .list [], .lst (SqL.of hl2) (dp_ints cells), .lst (SqL.of hz) .nil, sh_ints cells, by decide +kernel, ?_⟩
        walk_at "go"
        refine ite2 (fun hne => ?_) (fun _ => ?_)
        · have pos : 0 < cells.length := by
            cases cells with
            | nil => exact absurd hne (by decide)
            | cons c cs => exact Nat.succ_pos _
          walk_at "go"
          refine ⟨l, cells.map .int, rfl, .inl (SqL.of hl2), ?_⟩
          rw [List.length_map]
          walk_at "go"
          have b0 : 0 ≤ (a : Int) % (cells.length : Int) := Int.emod_nonneg _ (by omega)
          have b1 : (a : Int) % (cells.length : Int) < (cells.length : Int) := Int.emod_lt_of_pos _ (by omega)
          obtain ⟨c, hc'⟩ := at_int (cells := cells) b0 b1
          refine w_ixL (SqL.of hl2) hc' ?_
          walk_at "go"
          exact ⟨s2, c, rfl⟩
        · walk_at "go"
          exact ⟨s2, _, rfl⟩
      · rintro σ' H2 ⟨s2, c, rfl⟩
        have hp2 := s2 _ _ hp1
        have hl2 := s2 _ _ hl1
        have fin : ∀ (d : Int) (rr : Int) (H' : Hp), 0 ≤ d → d < m → H' p = some (.lst [.ref l, .int ((a + 1 : Nat) : Int), .int rr]) → (∀ b, b ≠ p → H' b = H2 b) → Q (V.int d) H' := fun d rr H' d0 d1 hp' e' =>
          k d H' d0 d1 ⟨hc, (e' l hpl.symm).trans hl2, a + 1, rr, by omega, hp'⟩ fun b o e nb => (e' b nb).trans (s2 _ _ ((e1 b nb).trans e))
        have absok : ∀ c : Int, 0 ≤ (if c < 0 then -c else c) := fun c => by split <;> omega
        refine ⟨fun σ' H' => H' = H2 ∧ σ' = [some (.ref p), some (.int m), none, some (.int a), some (.int c), none, none], ?_, ?_⟩
        · have big : ∀ (b : Int) (D : Ends), (∀ (d : Int) (H' : Hp), D.rt (.int d) H' = Q (.int d) H') → True := fun _ _ _ => trivial
          walk_at "go"
          refine ⟨l, cells.map .int, rfl, .inl (SqL.of hl2), ?_⟩
          rw [List.length_map]
          walk_at "go"
          refine ite2 (fun h1 => ?_) (fun h1 => ?_)
          · walk_at "go"
            refine ⟨c, rfl, ?_⟩
            walk_at "go"
            refine w_pow ⟨by decide, by decide, by decide⟩ ?_
            walk_at "go"
            refine ite2 (fun h2 => ?_) (fun h2 => ?_)
            · walk_at "go"
              refine ⟨c, rfl, ?_⟩
              refine w_mul (.inl ⟨by decide, by decide⟩) ?_
              walk_at "go"
              refine .inr ⟨_, rfl, ?_⟩
              walk_at "go"
              refine w_fdiv ⟨hm, hm2⟩ ?_
              walk_at "go"
              refine w_setG hp2 rfl rfl fun H3 hp3 e3 => ?_
              walk_at "go"
              exact fin _ _ _ (Int.emod_nonneg _ (by omega)) (Int.emod_lt_of_pos _ hm) hp3 e3
            · walk_at "go"
              exact ⟨rfl, rfl⟩
          · walk_at "go"
            refine ite2 (fun h2 => absurd h2 (by decide)) (fun h2 => ?_)
            walk_at "go"
            exact ⟨rfl, rfl⟩
        · rintro σ' H' ⟨rfl, rfl⟩
          have an : 0 ≤ (a : Int) := Int.natCast_nonneg _
          have a2 : (a : Int) ≤ 100000 := by omega
          walk_at "go"
          refine w_mul (.inl ⟨by decide, by decide⟩) ?_
          walk_at "go"
          have q0 : 0 ≤ c % 2147483579 := Int.emod_nonneg _ (by decide)
          have q1 : c % 2147483579 < 2147483579 := Int.emod_lt_of_pos _ (by decide)
          refine w_pow ⟨by decide, by decide, by omega⟩ ?_
          walk_at "go"
          generalize hx : (c % 2147483579 + 57131 * (a : Int) + 211) ^ Int.toNat 5 % 2147483629 = x
          have x0 : 0 ≤ x := by rw [← hx]; exact Int.emod_nonneg _ (by decide)
          have x1 : x < 2147483629 := by rw [← hx]; exact Int.emod_lt_of_pos _ (by decide)
          refine w_mul (.inl ⟨by omega, by omega⟩) ?_
          walk_at "go"
          refine w_mul (.inl ⟨by decide, by decide⟩) ?_
          walk_at "go"
          refine w_mul (.inr ⟨by omega, by omega⟩) ?_
          walk_at "go"
          have y0 : 0 ≤ x * ((a : Int) + 64007) := Int.mul_nonneg x0 (by omega)
          have y1 : x * ((a : Int) + 64007) ≤ 2147483629 * 164007 := Int.mul_le_mul (by omega) (by omega) (by omega) (by decide)
          have z0 : 0 ≤ 91009 * (a : Int) * (a : Int) := Int.mul_nonneg (by omega) an
          have z1 : 91009 * (a : Int) * (a : Int) ≤ 91009 * 100000 * 100000 := Int.mul_le_mul (by omega) a2 an (by decide)
          refine w_pow ⟨by decide, by decide, by omega⟩ ?_
          walk_at "go"
          refine w_fdiv ⟨by decide, by decide⟩ ?_
          walk_at "go"
          exact fin _ r _ (Int.emod_nonneg _ (by omega)) (Int.emod_lt_of_pos _ hm) hp2 fun _ _ => rfl
theorem cut_ints (ns : List Int) (lo hi : Option Int) : ∃ ms : List Int, cutV (ns.map V.int) lo hi = ms.map V.int ∧ ms.length ≤ ns.length := by
  unfold cutV
  refine ⟨(ns.drop (HT.sIx (ns.map V.int).length 0 lo)).take (HT.sIx (ns.map V.int).length (ns.map V.int).length hi - HT.sIx (ns.map V.int).length 0 lo), ?_, ?_⟩
  · rw [List.map_take, List.map_drop]
  · rw [List.length_take, List.length_drop]
    omega
def spPen (K : PySem.W.Frag) : Sp := fun vs H Q _ => ∃ (a : Addr) (ns : List Int), vs = [.ref a] ∧ SqL K H a (ns.map V.int) ∧ ns.length ≤ 63 ∧
  ∀ (p l : Addr) (cells : List Int) (H' : Hp), H p = none → PenC 0 p l cells H' → Same H H' → Q (.ref p) H'
theorem ok_pen (D : DefAt K mg "_law_pen" s__law_pen ["_law_script"]) (B : Bi mg) : Cal P w K mg base 1 "_law_pen" (spPen K) := by
  refine D.cal sc__law_pen (fun vs H Q E h => ?_) (fun f cdv A outer s H vs Q E rm gd h => ?_)
  · obtain ⟨a, ns, rfl, _⟩ := h
    rfl
  · obtain ⟨a, ns, rfl, hs, hl, k⟩ := h
    obtain ⟨ms, em, lm⟩ := cut_ints ns none (some 63)
    refine ⟨_, (pss_one (ps_ret (pe_lst (pa_cons (pe_callTy call_list_of (by rfl) B.g_list (by decide +kernel) (pa_cons (pe_slice sl_list (pv 0) po_none (po_some pe_int)) pa_nil)) (pa_cons pe_int (pa_cons pe_int pa_nil)))))), ?_⟩
    walk_at "go"
    refine ⟨_, rfl, _, rfl, a, ns.map .int, rfl, hs, fun p1 n1 => ?_⟩
    rw [em]
    have s1 : Same H (upd H p1 (.lst (ms.map V.int))) := fun b u e => by rw [upd_ne (ne_of_none e n1)]; exact e
    walk_at "go"
    refine ⟨p1, ms.map .int, rfl, .inl (SqL.of upd_same), fun l nl => ?_⟩
    have s2 : Same (upd H p1 (.lst (ms.map V.int))) (upd (upd H p1 (.lst (ms.map V.int))) l (.lst (ms.map V.int))) := fun b u e => by rw [upd_ne (ne_of_none e nl)]; exact e
    walk_at "go"
    refine new (by show 3 ≤ sizeLine; decide) fun p H3 np h3 s3 => ?_
    exact k p l ms H3 (s1.free (s2.free np)) ⟨by omega, s3 _ _ upd_same, 0, 0, Nat.le_refl _, h3⟩ (s1.trans (s2.trans s3))
end
end Law

set_option Elab.async false
set_option linter.all false
set_option maxRecDepth 100000
set_option maxHeartbeats 4000000
namespace Law
open PySem PySem.Spec PySem.Calls PyProof.Rows L2 KG LamX
local macro_rules | `(tactic| walk_at "1") => `(tactic| first
  | (with_reducible refine w_var rfl ?_) | (with_reducible refine w_c ?_) | (with_reducible refine w_seq ?_) | (with_reducible refine w_asg ?_) | (with_reducible refine w_gname ?_) | (with_reducible refine w_op ?_) | (with_reducible refine w_un ?_)
  | (with_reducible refine w_add ?_) | (with_reducible refine w_sub ?_) | ((with_reducible refine' w_mod ?mo ?_); (case mo => first | assumption | decide | omega)) | (with_reducible refine w_and ?_) | (with_reducible refine w_or ?_) | (with_reducible refine w_xor ?_)
  | (with_reducible refine w_gt ?_) | (with_reducible refine w_lt ?_) | (with_reducible refine w_ge ?_) | (with_reducible refine w_le ?_) | ((with_reducible refine' w_eq ?sc ?_); (case sc => rfl)) | ((with_reducible refine' w_ne ?sc ?_); (case sc => rfl))
  | (with_reducible refine w_ret ?_) | (with_reducible refine w_next ?_) | (with_reducible refine w_ifs ?_) | (with_reducible refine w_ifx ?_) | (with_reducible refine w_test ?_) | (with_reducible refine w_tB ?_) | (with_reducible refine w_bl ?_)
  | ((with_reducible refine' w_ixL ?ixh ?ixa ?_); (case ixh => first | exact SqL.of (by assumption)); (case ixa => first | rfl | skip)) | ((with_reducible refine' w_ixT ?ixh ?ixa ?_); (case ixh => first | exact SqT.of (by assumption)); (case ixa => first | rfl | skip))
  | ((with_reducible refine' w_fld ?_)) | ((with_reducible refine' fld ?fh ?fc ?fn ?fl ?_); (case fh => assumption); (case fc => assumption); (case fn => assumption); (case fl => rfl)) | (with_reducible refine w_sfld ?_)
  | (with_reducible refine Or.inl ⟨_, rfl, ?_⟩) | (with_reducible refine w_gsub ?_) | (with_reducible refine w_andV ?_) | (with_reducible refine w_orV ?_)
  | (with_reducible refine w_nil ?_) | (with_reducible refine w_cons ?_) | (with_reducible refine w_tup ?_) | (with_reducible refine w_lst ?_) | (with_reducible refine w_and2 ?_) | (with_reducible refine w_or2 ?_) | (with_reducible refine w_not ?_) | (with_reducible refine w_cb ?_) | (with_reducible refine w_call ?_) | (with_reducible refine w_par ?_) | (with_reducible refine w_pnil ?_) | (with_reducible refine w_pcons ?_) | (with_reducible refine w_dput ?_) | (with_reducible refine w_dget ?_) | (with_reducible refine w_for ?_) | (with_reducible refine w_itup ?_) | (with_reducible refine w_ilist ?_) | (with_reducible refine w_irng ?_) | (with_reducible refine w_meth ?_) | (with_reducible refine w_make ?_) | (with_reducible refine w_makeK ?_) | (with_reducible refine w_methK ?_) | ((with_reducible refine' mth ?mh ?ml ?_); (case mh => assumption); (case ml => rfl)) | (with_reducible refine w_drop ?_))
local macro_rules | `(tactic| walk_at "go") => `(tactic| ((repeat (walk_at "1")); try dsimp only))
local macro_rules | `(tactic| walk_at "1") => `(tactic| first
  | (with_reducible refine w_notV ?_) | (with_reducible refine w_callK ?_) | (with_reducible refine w_lc ?_) | (with_reducible refine w_chain ?_) | (with_reducible refine w_neg ?_) | ((with_reducible refine' w_shr ?mo ?_); (case mo => first | assumption | omega)))
theorem bi_of {mg : Str → Option Value} (B : B1 mg) : Bi mg := ⟨B.g_int, B.g_len, B.g_abs, B.g_list, B.g_repr, B.g_range, B.g_str⟩
theorem PenC.same {n : Nat} {p l : Addr} {cells : List Int} {H H' : Hp} (h : PenC n p l cells H) (s : Same H H') : PenC n p l cells H' := by
  obtain ⟨a, b, c, d, e, f⟩ := h
  exact ⟨a, s _ _ b, c, d, e, s _ _ f⟩
theorem PenC.mono {n m : Nat} {p l : Addr} {cells : List Int} {H : Hp} (h : PenC n p l cells H) (k : n ≤ m) : PenC m p l cells H := by
  obtain ⟨a, b, c, d, e, f⟩ := h
  exact ⟨a, b, c, d, Nat.le_trans e k, f⟩
theorem PenC.at_p {n : Nat} {p l : Addr} {cells : List Int} {H : Hp} (h : PenC n p l cells H) : ∃ xs, H p = some (.lst xs) ∧ xs.length = 3 := by
  obtain ⟨_, _, a, r, _, z⟩ := h
  exact ⟨_, z, rfl⟩
theorem Kp.of_same {p : Addr} {H H' : Hp} (s : Same H H') : Kp p H H' := fun b o e _ => s b o e
theorem Kp.trans {p : Addr} {H H1 H2 : Hp} (a : Kp p H H1) (b : Kp p H1 H2) : Kp p H H2 := fun c o e n => b c o (a c o e n) n
def spWord : Sp := fun vs H Q _ => ∃ (p l : Addr) (cells : List Int) (n : Nat) (w : Int), vs = [.ref p, .int w] ∧ PenC n p l cells H ∧ n + 6 ≤ 100000 ∧ wd w = true ∧
  ∀ (v : Int) (H' : Hp), 0 ≤ v → v ≤ fw w → PenC (n + 6) p l cells H' → Kp p H H' → Q (.int v) H'
theorem valD {n : Int} (h : wd n = true) : valV [((.inl 8 : Key), V.int 255), (.inl 16, .int 65535), (.inl 32, .int 4294967295)] (.inl n) = some (.int (fw n)) := by
  rcases wd_of h with rfl | rfl | rfl <;> rfl
theorem fl_nat {w : Int} (h : wd w = true) {v : Int} (v0 : 0 ≤ v) (v1 : v ≤ fw w) : ∃ n : Nat, v = (n : Int) ∧ n < 2 ^ w.toNat := by
  obtain ⟨n, rfl⟩ := Int.eq_ofNat_of_zero_le v0
  exact ⟨n, rfl, (fw_pow h).mp v1⟩
section
variable {P : Program} {w : World} {K : PySem.W.Frag} {mg : Str → Option Value} {base : Heap}
theorem six_at {a b c d e f i : Int} (h0 : 0 ≤ i) (h1 : i < 6) : ∃ v, atI [.int a, .int b, .int c, .int d, .int e, .int f] i = some (V.int v) ∧ (v = a ∨ v = b ∨ v = c ∨ v = d ∨ v = e ∨ v = f) := by
  have h : i = 0 ∨ i = 1 ∨ i = 2 ∨ i = 3 ∨ i = 4 ∨ i = 5 := by omega
  rcases h with rfl | rfl | rfl | rfl | rfl | rfl
  · exact ⟨a, rfl, .inl rfl⟩
  · exact ⟨b, rfl, .inr (.inl rfl)⟩
  · exact ⟨c, rfl, .inr (.inr (.inl rfl))⟩
  · exact ⟨d, rfl, .inr (.inr (.inr (.inl rfl)))⟩
  · exact ⟨e, rfl, .inr (.inr (.inr (.inr (.inl rfl))))⟩
  · exact ⟨f, rfl, .inr (.inr (.inr (.inr (.inr rfl))))⟩
theorem ok_word (D : DefAt K mg "_law_word" s__law_word ["_law_pen_here", "_law_width"]) (B : B1 mg) (c_law_draw : Cal P w K mg base 1 "_law_draw" spDraw) : Cal P w K mg base 2 "_law_word" spWord := by
  refine D.cal sc__law_word (fun vs H Q E h => ?_) (fun f cdv A outer s H vs Q E rm gd h => ?_)
  · obtain ⟨p, l, cells, n, wi, rfl, _⟩ := h
    rfl
  · obtain ⟨p, l, cells, n, wi, rfl, pen, hn, hw, q⟩ := h
    have hu := hu_of rm
    have h3 := wd_of hw
    obtain ⟨f0, f1, f2, f3⟩ := wd_fw hw
    refine ⟨_, (pss_cons (ps_set (i := 2) sc__law_word.nd rfl (Or.inl rfl) (pe_dget hu (pe_disp (pps_cons pe_int pe_int (pps_cons pe_int pe_int (pps_cons pe_int pe_int pps_nil))) (by rfl) (by rfl) (fun z => by cases z) (by decide)) (pv 1) (fun _ _ => rfl)))
    (pss_cons (ps_set (i := 3) sc__law_word.nd rfl (Or.inl rfl) pe_int)
    (pss_cons (ps_for PassesOwn.never rfl (pi_range1 rfl B.g_range (pa_cons (pe_op op_fdiv (pv 1) pe_int) pa_nil)) (pg_name (i := 4) sc__law_word.nd rfl (Or.inl rfl))
      (pss_one (ps_set (i := 3) sc__law_word.nd rfl (Or.inl rfl) (pe_op op_add (pe_op op_mul pe_int (pv 3)) (pc c_law_draw rm (by decide) gd rfl (pa_cons (pv 0) (pa_cons pe_int pa_nil)))))))
    (pss_cons (ps_set (i := 5) sc__law_word.nd rfl (Or.inl rfl) (pe_op op_shl pe_int (pc c_law_draw rm (by decide) gd rfl (pa_cons (pv 0) (pa_cons (pv 1) pa_nil)))))
    (pss_one (ps_ret (pe_ix ix_list (pe_lst (pa_cons pe_int (pa_cons (pv 2) (pa_cons (pv 5) (pa_cons (pe_op op_sub (pv 2) (pv 5)) (pa_cons (pv 3) (pa_cons (pv 3) pa_nil))))))) (pc c_law_draw rm (by decide) gd rfl (pa_cons (pv 0) (pa_cons pe_int pa_nil))) (fun _ _ => rfl)))))))), ?_⟩
    walk_at "go"
    refine w_disp fun d1 H1 n1 h1 s1 => ?_
    walk_at "go"
    refine dall [(.inl 8, .int 255), (.inl 16, .int 65535), (.inl 32, .int 4294967295)] h1 rfl (by decide) rfl fun H2 h2 e2 => ?_
    have s2 : Same H H2 := fun b o e => (e2 b (ne_of_none e n1)).trans (s1 b o e)
    walk_at "go"
    refine dget (v := .int (fw wi)) (.inl wi) h2 (by rcases h3 with rfl | rfl | rfl <;> rfl) ?_
    walk_at "go"
    refine w_fdiv ⟨by decide, by decide⟩ ?_
    walk_at "go"
    have lim : wi / 8 ≤ 4 ∧ 0 ≤ wi / 8 := by omega
    have pen2 := pen.same s2
    refine over_r (by omega) (by omega) (for_range (n := (wi / 8).toNat) (fun i σ H' => PenC (n + i) p l cells H' ∧ Kp p H2 H' ∧ ∃ (a : Int) (v4 v5 : Option V), 0 ≤ a ∧ a < 256 ^ i ∧ σ = [some (.ref p), some (.int wi), some (.int (fw wi)), some (.int a), v4, v5])
      ⟨pen2, fun _ _ e _ => e, 0, none, none, Int.le_refl _, by decide, rfl⟩ ?_ ?_)
    · rintro i σ H3 hi ⟨pen3, k3, a, v4, v5, a0, a1, rfl⟩
      walk_at "go"
      refine w_mul (.inl ⟨by decide, by decide⟩) ?_
      walk_at "go"
      refine ⟨p, l, cells, n + i, 256, rfl, pen3, by omega, by decide, by decide, fun d H4 d0 d1 pen4 k4 => ?_⟩
      walk_at "go"
      refine ⟨pen4, k3.trans k4, 256 * a + d, _, _, by omega, ?_, rfl⟩
      have e : (256 : Int) ^ (i + 1) = 256 ^ i * 256 := Int.pow_succ _ _
      rw [e]
      generalize (256 : Int) ^ i = X at *
      omega
    · rintro σ H3 ⟨pen3, k3, a, v4, v5, a0, a1, rfl⟩
      have a2 : a ≤ fw wi := by
        have e : (256 : Int) ^ (wi / 8).toNat = fw wi + 1 := by rcases h3 with rfl | rfl | rfl <;> decide
        omega
      walk_at "go"
      refine ⟨p, l, cells, n + (wi / 8).toNat, wi, rfl, pen3, by omega, by omega, by omega, fun d H4 d0 d1 pen4 k4 => ?_⟩
      refine w_shl ⟨by omega, by omega, by decide⟩ ?_
      walk_at "go"
      refine new (show 6 ≤ sizeLine by decide) fun t H5 nt ht s5 => ?_
      walk_at "go"
      refine ⟨p, l, cells, n + (wi / 8).toNat + 1, 6, rfl, pen4.same s5, by omega, by decide, by decide, fun j H6 j0 j1 pen6 k6 => ?_⟩
      have tp : t ≠ p := by
        obtain ⟨xs, hp, hl⟩ := (pen4.same s5).at_p
        refine ne_of ht hp fun z => ?_
        injection z with z
        rw [← z] at hl
        cases hl
      obtain ⟨v, ev, hv⟩ := six_at (a := 0) (b := fw wi) (c := 1 * 2 ^ d.toNat) (d := fw wi - 1 * 2 ^ d.toNat) (e := a) (f := a) j0 j1
      refine w_ixL (SqL.of (k6 _ _ ht tp)) ev ?_
      have o1 : 0 ≤ (1 : Int) * 2 ^ d.toNat ∧ (1 : Int) * 2 ^ d.toNat ≤ fw wi := by
        have hd : d.toNat < wi.toNat := by omega
        have m : ∀ w : Nat, (w = 8 ∨ w = 16 ∨ w = 32) → ∀ e, e < w → (0 : Int) ≤ 1 * 2 ^ e ∧ (1 : Int) * 2 ^ e ≤ 1 * 2 ^ w - 1 := by
          intro w hw
          rcases hw with rfl | rfl | rfl <;> decide +kernel
        exact m wi.toNat (by omega) d.toNat hd
      have b2 : 0 ≤ v ∧ v ≤ fw wi := by
        rcases hv with rfl | rfl | rfl | rfl | rfl | rfl
        · exact ⟨Int.le_refl _, f0⟩
        · exact ⟨f0, Int.le_refl _⟩
        · exact o1
        · omega
        · exact ⟨a0, a2⟩
        · exact ⟨a0, a2⟩
      have kk : Kp p H H6 := (Kp.of_same s2).trans (k3.trans (k4.trans ((Kp.of_same s5).trans k6)))
      exact q v H6 b2.1 b2.2 (pen6.mono (by omega)) kk
end
/-! ### odd values -/
theorem list_text (ds : List PyData) : (PyData.list ds).shown = listText (PyData.shownAll ds) := (PyData.shown_list ds).trans (listText_eq_join _).symm
/-- the words of errors -/
def isWn (z : Str) : Prop := z = "width" ∨ z = "word" ∨ z = "shift"
def notW (t : Str) : Bool := !(decide (t = "8") || decide (t = "16") || decide (t = "32"))
/-- data that are drawn here -/
structure OkD (d : PyData) : Prop where
  s : ∀ z, isWn z → (PyData.list [.str z, d]).showable = true ∧ (PyData.list [.str z, d]).depth ≤ 40 ∧ (PyData.list [.str z, d]).shown.length ≤ 3000
  o : ∀ z, z = "word" ∨ z = "shift" → PyData.strOk (PyData.list [.str z, d]).shown = true
  h : d.showable = true ∧ d.depth ≤ 40 ∧ d.shown.length ≤ 3000
  w : (∃ i, d = .int i) ∨ notW d.shown = true
def okB (d : PyData) : Bool := (["width", "word", "shift"] : List Str).all (fun z => (PyData.list [.str z, d]).showable && decide ((PyData.list [.str z, d]).depth ≤ 40) && decide ((PyData.list [.str z, d]).shown.length ≤ 1000) && PyData.strOk (PyData.list [.str z, d]).shown) &&
  (d.showable && decide (d.depth ≤ 40) && decide (d.shown.length ≤ 1000) && notW d.shown)
theorem okD_of {d : PyData} (h : okB d = true) : OkD d := by
  unfold okB at h
  simp only [Bool.and_eq_true, decide_eq_true_eq, List.all_cons, List.all_nil, Bool.and_true] at h
  obtain ⟨⟨⟨⟨⟨a1, a2⟩, a3⟩, a4⟩, ⟨⟨⟨b1, b2⟩, b3⟩, b4⟩, ⟨⟨c1, c2⟩, c3⟩, c4⟩, ⟨⟨d1, d2⟩, d3⟩, d4⟩ := h
  refine ⟨fun z hz => ?_, fun z hz => ?_, ⟨d1, d2, Nat.le_trans d3 (by decide)⟩, .inr d4⟩
  · rcases hz with rfl | rfl | rfl
    · exact ⟨a1, a2, Nat.le_trans a3 (by decide)⟩
    · exact ⟨b1, b2, Nat.le_trans b3 (by decide)⟩
    · exact ⟨c1, c2, Nat.le_trans c3 (by decide)⟩
  · rcases hz with rfl | rfl
    · exact b4
    · exact c4
theorem strOk_int (z : Str) (hz : (PyData.str z).shown.cps.toList.all (fun c => decide (c < 0x110000)) = true) (i : Int) : PyData.strOk (PyData.list [.str z, .int i]).shown = true := by
  have none_ : ∀ c ∈ (PyData.list [.str z, .int i]).shown.cps.toList, c < 0x110000 := fun c hc => by
    rw [PyData.shown_list, PyProof.Rows.mem_cps_append, PyProof.Rows.mem_cps_append, PyProof.Rows.signs_lbrack, PyProof.Rows.signs_rbrack, PyProof.Rows.mem_join] at hc
    by_cases big : c < 0x110000
    · exact big
    · exfalso
      rcases hc with (hc | ⟨t, ht, hc⟩ | ⟨_, hc⟩) | hc
      · simp at hc
        omega
      · rw [PyData.shownAll_cons, PyData.shownAll_cons, PyData.shownAll_nil] at ht
        rcases List.mem_cons.mp ht with e | ht
        · rw [e] at hc
          exact big (of_decide_eq_true (List.all_eq_true.mp hz c hc))
        · rw [List.mem_singleton.mp ht] at hc
          exact PyProof.Rows.shown_int_free' ⟨by omega, by omega⟩ i hc
      · rw [PyProof.Rows.signs_sep] at hc
        simp at hc
        omega
      · simp at hc
        omega
  unfold PyData.strOk
  rw [← Array.all_toList]
  exact List.all_eq_true.mpr fun c hc => decide_eq_true (none_ c hc)
theorem big_log {i : Int} (h : i.natAbs < 10 ^ 60) : i.natAbs.log2 < 1920 := by
  by_cases z : i.natAbs = 0
  · rw [z]; decide
  · rw [Nat.log2_lt z]
    exact Nat.lt_of_lt_of_le h (by decide +kernel)
theorem okD_int {i : Int} (h : i.natAbs < 10 ^ 60) : OkD (.int i) := by
  have lg := big_log h
  have li : (PyData.int i).shown.length ≤ 1921 := by
    rw [PyData.shown_int]
    exact PyProof.Rows.int_text_len_1921 lg
  refine ⟨fun z hz => ?_, fun z hz => ?_, ⟨by simp [PyData.showable, lg], by simp [PyData.depth], Nat.le_trans li (by decide)⟩, .inl ⟨i, rfl⟩⟩
  · have la : (PyData.str z).shown.length ≤ 20 := by rcases hz with rfl | rfl | rfl <;> decide +kernel
    refine ⟨?_, by simp [PyData.depth, PyData.depthAll], ?_⟩
    · simp [PyData.showable, PyData.showableAll, lg]
    · rw [list_text, PyData.shownAll_cons, PyData.shownAll_cons, PyData.shownAll_nil]
      have l := listText_len_le [(PyData.str z).shown, (PyData.int i).shown]
      simp only [List.map_cons, List.map_nil, List.sum_cons, List.sum_nil, List.length_cons, List.length_nil] at l
      omega
  · refine strOk_int z ?_ i
    rcases hz with rfl | rfl <;> decide +kernel
inductive ItL (H : Hp) : List V → Prop
  | nil : ItL H []
  | cons {x : V} {xs : List V} {d : PyData} : Ov H x d → OkD d → ItL H xs → ItL H (x :: xs)
theorem Ov.but {H H' : Hp} {x : V} {d : PyData} {p : Addr} {xs : List V} (hp : H p = some (.lst xs)) (nx : 2 ≤ xs.length) (s : ∀ b o, H b = some o → b ≠ p → H' b = some o) (h : Ov H x d) : Ov H' x d := by
  rcases h with h | h | h | h | ⟨a, o, e, ha, h⟩
  · exact .inl h
  · exact .inr (.inl h)
  · exact .inr (.inr (.inl h))
  · exact .inr (.inr (.inr (.inl h)))
  · refine .inr (.inr (.inr (.inr ⟨a, o, e, s _ _ ha fun z => ?_, h⟩)))
    rw [z, hp] at ha
    cases ha
    rcases h with ⟨h, _⟩ | ⟨h, _⟩ | ⟨h, _⟩ | ⟨h, _⟩ | ⟨h, _⟩ | ⟨h, _⟩ <;> cases h <;> simp at nx
theorem Ov.kp {n : Nat} {p l : Addr} {cells : List Int} {H H' : Hp} {x : V} {d : PyData} (pen : PenC n p l cells H) (k : Kp p H H') (o : Ov H x d) : Ov H' x d := by
  obtain ⟨xs, hp, hl⟩ := pen.at_p
  exact o.but hp (by omega) k
theorem ItL.map {H H' : Hp} (f : ∀ x d, Ov H x d → Ov H' x d) : ∀ {xs : List V}, ItL H xs → ItL H' xs
  | _, .nil => .nil
  | _, .cons a b c => .cons (f _ _ a) b (c.map f)
theorem ItL.same {H H' : Hp} {xs : List V} (h : ItL H xs) (s : Same H H') : ItL H' xs := h.map fun _ _ => Ov.same s
theorem ItL.kp {n : Nat} {p l : Addr} {cells : List Int} {H H' : Hp} {xs : List V} (h : ItL H xs) (pen : PenC n p l cells H) (k : Kp p H H') : ItL H' xs := h.map fun _ _ => Ov.kp pen k
theorem ItL.app {H : Hp} : ∀ {xs ys : List V}, ItL H xs → ItL H ys → ItL H (xs ++ ys)
  | _, _, .nil, h => h
  | _, _, .cons a b c, h => .cons a b (c.app h)
theorem ItL.get {H : Hp} : ∀ {xs : List V} {i : Nat} {x : V}, ItL H xs → xs[i]? = some x → ∃ d, Ov H x d ∧ OkD d
  | _, 0, _, .cons a b _, e => by cases e; exact ⟨_, a, b⟩
  | _, i + 1, _, .cons _ _ c, e => c.get (i := i) e
theorem ItL.str {H : Hp} {z : Str} {xs : List V} (h : okB (.str z) = true) (t : ItL H xs) : ItL H (.str z :: xs) := .cons (oS z) (okD_of h) t
theorem ItL.int {H : Hp} {z : Int} {xs : List V} (h : z.natAbs < 10 ^ 60) (t : ItL H xs) : ItL H (.int z :: xs) := .cons (oI z) (okD_int h) t
def spOdd : Sp := fun vs H Q _ => ∃ (p l : Addr) (cells : List Int) (n : Nat) (w : Int), vs = [.ref p, .int w] ∧ PenC n p l cells H ∧ n + 12 ≤ 100000 ∧ wd w = true ∧
  ∀ (t : Addr) (xs : List V) (H' : Hp), t ≠ p → t ≠ l → H' t = some (.lst xs) → ItL H' xs → xs.length = 26 → PenC (n + 12) p l cells H' → Kp p H H' → Q (.ref t) H'
section
variable {P : Program} {w : World} {K : PySem.W.Frag} {mg : Str → Option Value} {base : Heap}
theorem ok_odd (D : DefAt K mg "_law_odd" s__law_odd ["_law_pen_here", "_law_width"]) (B : B1 mg) (c_law_word : Cal P w K mg base 2 "_law_word" spWord) : Cal P w K mg base 3 "_law_odd" spOdd := by
  refine D.cal sc__law_odd (fun vs H Q E h => ?_) (fun f cdv A outer s H vs Q E rm gd h => ?_)
  · obtain ⟨p, l, cells, n, wi, rfl, _⟩ := h
    rfl
  · obtain ⟨p, l, cells, n, wi, rfl, pen, hn, hw, q⟩ := h
    have hu := hu_of rm
    have h3 := wd_of hw
    obtain ⟨f0, f1, f2, f3⟩ := wd_fw hw
    refine ⟨_, (pss_cons (ps_set (i := 2) sc__law_odd.nd rfl (Or.inl rfl) (pe_dget hu (pe_disp (pps_cons pe_int pe_int (pps_cons pe_int pe_int (pps_cons pe_int pe_int pps_nil))) (by rfl) (by rfl) (fun z => by cases z) (by decide)) (pv 1) (fun _ _ => rfl)))
    (pss_cons (ps_set (i := 3) sc__law_odd.nd rfl (Or.inl rfl) (pe_lst (pa_cons pe_non (pa_cons pe_bl (pa_cons pe_bl (pa_cons pe_str (pa_cons pe_str (pa_cons (pe_tup pa_nil) (pa_cons (pe_lst pa_nil) (pa_cons pe_dnewK (pa_cons (pe_tup (pa_cons pe_int pa_nil)) (pa_cons (pe_lst (pa_cons pe_int pa_nil)) (pa_cons (pe_un un_neg pe_int) (pa_cons pe_int (pa_cons pe_int (pa_cons (pv 1) (pa_cons (pe_op op_add (pv 1) pe_int) (pa_cons (pe_op op_sub pe_int (pv 1)) (pa_cons (pe_op op_sub (pe_op op_sub pe_int (pv 1)) pe_int) pa_nil)))))))))))))))))))
    (pss_cons (ps_set (i := 3) sc__law_odd.nd rfl (Or.inl rfl) (pe_op op_cat (pv 3) (pe_lst (pa_cons (pv 2) (pa_cons (pe_op op_add (pv 2) pe_int) (pa_cons (pe_op op_sub pe_int (pv 2)) (pa_cons (pe_op op_pow pe_int pe_int) (pa_cons (pe_op op_sub pe_int (pe_op op_pow pe_int pe_int)) (pa_cons (pc c_law_word rm (by decide) gd rfl (pa_cons (pv 0) (pa_cons (pv 1) pa_nil))) (pa_cons (pe_op op_sub pe_int (pc c_law_word rm (by decide) gd rfl (pa_cons (pv 0) (pa_cons (pv 1) pa_nil)))) pa_nil))))))))))
    (pss_one (ps_ret (pe_op op_cat (pv 3) (pe_lst (pa_cons pe_str (pa_cons (pe_disp (pps_cons pe_str pe_int pps_nil) (by rfl) (by rfl) (fun z => by cases z) (by decide)) pa_nil))))))))), ?_⟩
    walk_at "go"
    refine w_disp fun d1 H1 n1 h1 s1 => ?_
    walk_at "go"
    refine dall [(.inl 8, .int 255), (.inl 16, .int 65535), (.inl 32, .int 4294967295)] h1 rfl (by decide) rfl fun H2 h2 e2 => ?_
    have s2 : Same H H2 := fun b o e => (e2 b (ne_of_none e n1)).trans (s1 b o e)
    walk_at "go"
    refine dget (v := .int (fw wi)) (.inl wi) h2 (valD hw) ?_
    walk_at "go"
    refine new (show 0 ≤ sizeLine by decide) fun t2 H3 n3 h3' s3 => ?_
    walk_at "go"
    refine new (show 0 ≤ sizeLine by decide) fun t3 H4 n4 h4 s4 => ?_
    walk_at "go"
    refine fun t4 n5 => ?_
    have s5 : Same H4 (upd H4 t4 (.dK [])) := fun b o e => by
      rw [upd_ne (ne_of_none e n5)]
      exact e
    have h5 : upd H4 t4 (.dK []) t4 = some (.dK []) := upd_same
    generalize upd H4 t4 (.dK []) = H5 at s5 h5
    walk_at "go"
    refine new (show 1 ≤ sizeLine by decide) fun t5 H6 n6 h6 s6 => ?_
    walk_at "go"
    refine new (show 1 ≤ sizeLine by decide) fun t6 H7 n7 h7 s7 => ?_
    walk_at "go"
    refine new (show 17 ≤ sizeLine by decide) fun t7 H8 n8 h8 s8 => ?_
    walk_at "go"
    have s38 : Same H3 H8 := s4.trans (s5.trans (s6.trans (s7.trans s8)))
    have pen8 : PenC n p l cells H8 := (pen.same s2).same (s3.trans s38)
    have iA : ItL H8 _ := .cons oN (okD_of (by decide +kernel)) (.cons (oB true) (okD_of (by decide +kernel)) (.cons (oB false) (okD_of (by decide +kernel)) (.str (z := "") (by decide +kernel) (.str (z := "1") (by decide +kernel)
      (.cons (oR (s38 _ _ h3') (.inl ⟨rfl, rfl⟩)) (okD_of (by decide +kernel)) (.cons (oR ((s5.trans (s6.trans (s7.trans s8))) _ _ h4) (.inr (.inl ⟨rfl, rfl⟩))) (okD_of (by decide +kernel)) (.cons (oR ((s6.trans (s7.trans s8)) _ _ h5) (.inr (.inr (.inl ⟨rfl, rfl⟩)))) (okD_of (by decide +kernel))
      (.cons (oR ((s7.trans s8) _ _ h6) (.inr (.inr (.inr (.inl ⟨rfl, rfl⟩))))) (okD_of (by decide +kernel)) (.cons (oR (s8 _ _ h7) (.inr (.inr (.inr (.inr (.inl ⟨rfl, rfl⟩)))))) (okD_of (by decide +kernel))
      (.int (z := -1) (by decide +kernel) (.int (z := 0) (by decide +kernel) (.int (z := 1) (by decide +kernel) (.int (z := wi) (by omega) (.int (z := wi + 1) (by omega) (.int (z := 0 - wi) (by omega) (.int (z := 0 - wi - 1) (by omega) .nil))))))))))))))))
    have s28 : Same H2 H8 := s3.trans s38
    clear h3' h4 h5 h6 h7 n3 n4 n5 n6 n7 s3 s4 s5 s6 s7 s8 s38
    refine w_pow ⟨by decide, by decide, by decide⟩ ?_
    walk_at "go"
    refine w_pow ⟨by decide, by decide, by decide⟩ ?_
    walk_at "go"
    have lp : ∀ {G : Hp} {m : Nat} {a : Addr} {xs : List V}, PenC m p l cells G → G a = some (.lst xs) → xs.length ≠ 3 → a ≠ p := fun pen ha hx => by
      obtain ⟨ys, hp, hl⟩ := pen.at_p
      refine ne_of ha hp fun z => ?_
      injection z with z
      rw [z] at hx
      exact hx hl
    refine ⟨p, l, cells, n, wi, rfl, pen8, by omega, hw, fun v1 H9 v10 v11 pen9 k9 => ?_⟩
    have h8' : H9 t7 = _ := k9 _ _ h8 (lp pen8 h8 (by show 17 ≠ 3; decide))
    have iA9 := iA.kp pen8 k9
    walk_at "go"
    refine ⟨p, l, cells, n + 6, wi, rfl, pen9, by omega, hw, fun v2 H10 v20 v21 pen10 k10 => ?_⟩
    have h8'' : H10 t7 = _ := k10 _ _ h8' (lp pen9 h8' (by show 17 ≠ 3; decide))
    have iA10 := iA9.kp pen9 k10
    walk_at "go"
    refine new (show 7 ≤ sizeLine by decide) fun t8 H11 n11 h11 s11 => ?_
    walk_at "go"
    have iB : ItL H11 _ := .int (z := fw wi) (by omega) (.int (z := fw wi + 1) (by omega) (.int (z := 0 - fw wi) (by omega) (.int (z := 10 ^ (59 : Int).toNat) (by decide +kernel) (.int (z := 0 - 10 ^ (59 : Int).toNat) (by decide +kernel) (.int (z := v1) (by omega) (.int (z := 0 - v2) (by omega) .nil))))))
    refine w_cat (s11 _ _ h8'') h11 rfl (show 24 ≤ sizeLine by decide) fun t9 H12 n12 h12 s12 => ?_
    walk_at "go"
    have iC : ItL H12 _ := (iA10.same (s11.trans s12)).app (iB.same s12)
    have pen12 := (pen10.same s11).same s12
    have k012 : Kp p H H12 := (Kp.of_same (s2.trans s28)).trans (k9.trans (k10.trans (Kp.of_same (s11.trans s12))))
    clear iA iA9 iA10 iB h8 h8' h8'' h11
    refine w_disp fun d2 H13 n13 h13 s13 => ?_
    walk_at "go"
    refine dall [(.inr "a", .int 1)] h13 rfl (by decide) rfl fun H14 h14 e14 => ?_
    have s14 : Same H12 H14 := fun b o e => (e14 b (ne_of_none e n13)).trans (s13 b o e)
    walk_at "go"
    refine new (show 2 ≤ sizeLine by decide) fun t10 H15 n15 h15 s15 => ?_
    have iD : ItL H15 _ := .str (z := "8") (by decide +kernel) (.cons (oR (s15 _ _ h14) (.inr (.inr (.inr (.inr (.inr ⟨rfl, rfl⟩)))))) (okD_of (by decide +kernel)) .nil)
    refine w_cat ((s14.trans s15) _ _ h12) h15 rfl (show 26 ≤ sizeLine by decide) fun t11 H16 n16 h16 s16 => ?_
    have sE := s14.trans (s15.trans s16)
    have penE := pen12.same sE
    have nl : t11 ≠ l := fun z => by
      rw [z] at n16
      obtain ⟨_, y, _⟩ := pen12.same (s14.trans s15)
      rw [n16] at y
      cases y
    exact q t11 _ H16 (lp penE h16 (by show 26 ≠ 3; decide)) nl h16 ((iC.same sE).app (iD.same s16)) rfl penE (k012.trans (Kp.of_same sE))
end
end Law

set_option Elab.async false
set_option linter.all false
set_option maxRecDepth 100000
set_option maxHeartbeats 4000000
namespace Law
open PySem PySem.Spec PySem.Calls PyProof.Rows L2 KG LamX
local macro_rules | `(tactic| walk_at "1") => `(tactic| first
  | (with_reducible refine w_var rfl ?_) | (with_reducible refine w_c ?_) | (with_reducible refine w_seq ?_) | (with_reducible refine w_asg ?_) | (with_reducible refine w_gname ?_) | (with_reducible refine w_op ?_) | (with_reducible refine w_un ?_)
  | (with_reducible refine w_add ?_) | (with_reducible refine w_sub ?_) | ((with_reducible refine' w_mod ?mo ?_); (case mo => first | assumption | decide | omega)) | (with_reducible refine w_and ?_) | (with_reducible refine w_or ?_) | (with_reducible refine w_xor ?_)
  | (with_reducible refine w_gt ?_) | (with_reducible refine w_lt ?_) | (with_reducible refine w_ge ?_) | (with_reducible refine w_le ?_) | ((with_reducible refine' w_eq ?sc ?_); (case sc => rfl)) | ((with_reducible refine' w_ne ?sc ?_); (case sc => rfl))
  | (with_reducible refine w_ret ?_) | (with_reducible refine w_next ?_) | (with_reducible refine w_ifs ?_) | (with_reducible refine w_ifx ?_) | (with_reducible refine w_test ?_) | (with_reducible refine w_tB ?_) | (with_reducible refine w_bl ?_)
  | ((with_reducible refine' w_ixL ?ixh ?ixa ?_); (case ixh => first | exact SqL.of (by assumption)); (case ixa => first | rfl | skip)) | ((with_reducible refine' w_ixT ?ixh ?ixa ?_); (case ixh => first | exact SqT.of (by assumption)); (case ixa => first | rfl | skip))
  | ((with_reducible refine' w_fld ?_)) | ((with_reducible refine' fld ?fh ?fc ?fn ?fl ?_); (case fh => assumption); (case fc => assumption); (case fn => assumption); (case fl => rfl)) | (with_reducible refine w_sfld ?_)
  | (with_reducible refine Or.inl ⟨_, rfl, ?_⟩) | (with_reducible refine w_gsub ?_) | (with_reducible refine w_andV ?_) | (with_reducible refine w_orV ?_)
  | (with_reducible refine w_nil ?_) | (with_reducible refine w_cons ?_) | (with_reducible refine w_tup ?_) | (with_reducible refine w_lst ?_) | (with_reducible refine w_and2 ?_) | (with_reducible refine w_or2 ?_) | (with_reducible refine w_not ?_) | (with_reducible refine w_cb ?_) | (with_reducible refine w_call ?_) | (with_reducible refine w_par ?_) | (with_reducible refine w_pnil ?_) | (with_reducible refine w_pcons ?_) | (with_reducible refine w_dput ?_) | (with_reducible refine w_dget ?_) | (with_reducible refine w_for ?_) | (with_reducible refine w_itup ?_) | (with_reducible refine w_ilist ?_) | (with_reducible refine w_irng ?_) | (with_reducible refine w_meth ?_) | (with_reducible refine w_make ?_) | (with_reducible refine w_makeK ?_) | (with_reducible refine w_methK ?_) | ((with_reducible refine' mth ?mh ?ml ?_); (case mh => assumption); (case ml => rfl)) | (with_reducible refine w_drop ?_))
local macro_rules | `(tactic| walk_at "go") => `(tactic| ((repeat (walk_at "1")); try dsimp only))
local macro_rules | `(tactic| walk_at "1") => `(tactic| first
  | (with_reducible refine w_notV ?_) | (with_reducible refine w_callK ?_) | (with_reducible refine w_lc ?_) | (with_reducible refine w_chain ?_) | (with_reducible refine w_neg ?_) | ((with_reducible refine' w_shr ?mo ?_); (case mo => first | assumption | omega)))
/-! ### what is due -/
theorem inV8 (i : Int) : inV (.int i) [.int 8, .int 16, .int 32] = wd i := by
  unfold inV wd
  simp only [List.any_cons, List.any_nil, Bool.or_false]
  by_cases h1 : i = 8
  · subst h1; rfl
  · by_cases h2 : i = 16
    · subst h2; rfl
    · by_cases h3 : i = 32
      · subst h3; rfl
      · have e : ∀ j : Int, i ≠ j → eqV (.int j) (.int i) = false := fun j hj => by
          show decide (j = i) = false
          exact decide_eq_false fun z => hj z.symm
        rw [e 8 h1, e 16 h2, e 32 h3, decide_eq_false h1, decide_eq_false h2, decide_eq_false h3]
        rfl
def spDue : Sp := fun vs H Q _ => ∃ (t : Addr) (m : Int) (a b c e : V) (da db dc de : PyData), vs = [.ref t, .int m] ∧ H t = some (.tup [a, b, c, e]) ∧ Ov H a da ∧ Ov H b db ∧ Ov H c dc ∧ Ov H e de ∧ OkD da ∧ OkD db ∧ OkD dc ∧ OkD de ∧ wd m = true ∧
  (∀ i, a = .int i → wd i = true → i = m) ∧ (∀ i v d H', firstX a b c e = some (i, v) → Ov H v d → OkD d → Same H H' → Q (.str (PyData.list [.str (ceT i), d]).shown) H') ∧ (∀ H', firstX a b c e = none → Same H H' → Q (.str "") H')
theorem rep_due {Q : VK} {G G2 : Hp} {z : Str} {v : V} {d : PyData} {p : Addr} (ov : Ov G v d) (ok : OkD d) (hz : isWn z) (q : ∀ H', Same G H' → Q (.str (PyData.list [.str z, d]).shown) H') (m5 : p ≠ sysModules) (h5 : G2 p = some (.lst [.str z, v])) (s5 : Same G G2) : rReprA [.ref p] G2 Q :=
  have ⟨k1, k2, k3⟩ := ok.s z hz
  ⟨.ref p, .list [.str z, d], rfl, Da.lst h5 (.cons (.str _) (.cons (ov.same s5).da .nil)), fun k => Dn.two h5 m5 ((ov.same s5).dn (by simpa [PyData.hasDict, PyData.hasDictAll] using k)), k1, k2, Nat.le_trans k3 (by decide), q G2 s5⟩
section
variable {P : Program} {w : World} {K : PySem.W.Frag} {mg : Str → Option Value} {base : Heap}
theorem ok_whole (D : DefAt K mg "_law_whole" s__law_whole ["_law_thing"]) (B : B1 mg) : Cal P w K mg base 1 "_law_whole" spIsInt := by
  refine D.cal sc__law_whole (fun vs H Q E h => ?_) (fun f cdv A outer s H vs Q E rm gd h => ?_)
  · obtain ⟨x, d, rfl, _⟩ := h
    rfl
  · obtain ⟨x, d, rfl, ov, q⟩ := h
    obtain ⟨t, ty, k1, k2⟩ := ov_ty (K := K) ov
    refine ⟨_, (pss_one (ps_ret (pe_and (pe_callB call_isi (by rfl) B.g_isinstance (by decide +kernel) (pa_cons (pv 0) (pa_cons (pe_bltn (v := .ty "int") rfl B.g_int (by decide +kernel) rfl) pa_nil))) (pe_one (pe_not (pe_callB call_isi (by rfl) B.g_isinstance (by decide +kernel) (pa_cons (pv 0) (pa_cons (pe_bltn (v := .ty "bool") rfl B.g_bool (by decide +kernel) rfl) pa_nil)))))))), ?_⟩
    walk_at "go"
    refine ⟨x, .ty "int", .type t, .type "int", _, rfl, .ty _, ty, kit_ty k1, _, rfl, ?_⟩
    have e : isI x = ((isI x || isB x) && !(isB x)) := by cases x <;> rfl
    rw [e] at q
    cases h : (isI x || isB x) with
    | false =>
      rw [h] at q
      exact iteF q
    | true =>
      rw [h] at q
      refine iteT ?_
      walk_at "go"
      exact ⟨x, .ty "bool", .type t, .type "bool", _, rfl, .ty _, ty, kit_ty k2, _, rfl, q⟩
theorem ok_due (D : DefAt K mg "_law_due" s__law_due ["_law_numbers", "_law_marks"]) (B : B1 mg) (c_law_whole : Cal P w K mg base 1 "_law_whole" spIsInt) : Cal P w K mg base 2 "_law_due" spDue := by
  refine D.cal sc__law_due (fun vs H Q E h => ?_) (fun f cdv A outer s H vs Q E rm gd h => ?_)
  · obtain ⟨t, m, a, b, c, e, da, db, dc, de, rfl, _⟩ := h
    rfl
  · obtain ⟨t, m, a, b, c, e, da, db, dc, de, rfl, ht, oa, ob, oc, oe, ka, kb, kc, ke, hm, ham, q1, q2⟩ := h
    have hu := hu_of rm
    refine ⟨_, (pss_cons (ps_asg (pv 0) (pg_tup rfl (pgs_cons (pg_name (i := 2) sc__law_due.nd rfl (Or.inl rfl)) (pgs_cons (pg_name (i := 3) sc__law_due.nd rfl (Or.inl rfl)) (pgs_cons (pg_name (i := 4) sc__law_due.nd rfl (Or.inl rfl)) (pgs_cons (pg_name (i := 5) sc__law_due.nd rfl (Or.inl rfl)) pgs_nil))))))
    (pss_cons (ps_set (i := 6) sc__law_due.nd rfl (Or.inl rfl) (pe_dget hu (pe_disp (pps_cons pe_int pe_int (pps_cons pe_int pe_int (pps_cons pe_int pe_int pps_nil))) (by rfl) (by rfl) (fun z => by cases z) (by decide)) (pv 1) (fun _ _ => rfl)))
    (pss_mid (ps_if (PW.pt (pw_or (pt_not (pt_val (pc c_law_whole rm (by decide) gd rfl (pa_cons (pv 2) pa_nil)))) (pw_or1 (pt_cmpR op_notIn_seq (pv 2) (pe_tup (pa_cons pe_int (pa_cons pe_int (pa_cons pe_int pa_nil)))) rfl))))
      (pss_one (ps_ret (pe_callB (call_reprA rm gd) (by rfl) B.g_repr (by decide +kernel) (pa_cons (pe_lstB (pa_cons pe_str (pa_cons (pv 2) pa_nil))) pa_nil))))
      pss_nil)
    (pss_mid (ps_if (PW.pt (pw_or (pt_not (pt_val (pc c_law_whole rm (by decide) gd rfl (pa_cons (pv 3) pa_nil)))) (pw_or1 (pt_not (pt_chain op_le op_le (pe_op op_sub pe_int (pv 2)) (pv 3) (pv 2))))))
      (pss_one (ps_ret (pe_callB (call_reprA rm gd) (by rfl) B.g_repr (by decide +kernel) (pa_cons (pe_lstB (pa_cons pe_str (pa_cons (pv 3) pa_nil))) pa_nil))))
      pss_nil)
    (pss_mid (ps_if (PW.pt (pw_and (pt_cmpR op_notN (pv 4) pe_non (nomark _)) (pw_and1 (PW.pt (pw_or (pt_not (pt_val (pc c_law_whole rm (by decide) gd rfl (pa_cons (pv 4) pa_nil)))) (pw_or1 (pt_not (pt_chain op_le op_le pe_int (pv 4) (pv 6)))))))))
      (pss_one (ps_ret (pe_callB (call_reprA rm gd) (by rfl) B.g_repr (by decide +kernel) (pa_cons (pe_lstB (pa_cons pe_str (pa_cons (pv 4) pa_nil))) pa_nil))))
      pss_nil)
    (pss_mid (ps_if (PW.pt (pw_or (pt_not (pt_val (pc c_law_whole rm (by decide) gd rfl (pa_cons (pv 5) pa_nil)))) (pw_or1 (pt_not (pt_chain op_le op_le pe_int (pv 5) (pv 6))))))
      (pss_one (ps_ret (pe_callB (call_reprA rm gd) (by rfl) B.g_repr (by decide +kernel) (pa_cons (pe_lstB (pa_cons pe_str (pa_cons (pv 5) pa_nil))) pa_nil))))
      pss_nil)
    (pss_one (ps_ret pe_str)))))))), ?_⟩
    walk_at "go"
    refine ⟨t, _, rfl, SqT.of ht, rfl, ?_⟩
    refine ⟨a, _, rfl, ?_⟩
    walk_at "go"
    refine ⟨b, _, rfl, ?_⟩
    walk_at "go"
    refine ⟨c, _, rfl, ?_⟩
    walk_at "go"
    refine ⟨e, _, rfl, ?_⟩
    walk_at "go"
    refine ⟨rfl, ?_⟩
    walk_at "go"
    refine w_disp fun d1 H1 n1 h1 s1 => ?_
    walk_at "go"
    refine dall [(.inl 8, .int 255), (.inl 16, .int 65535), (.inl 32, .int 4294967295)] h1 rfl (by decide) rfl fun H2 h2 e2 => ?_
    have s2 : Same H H2 := fun b o e => (e2 b (ne_of_none e n1)).trans (s1 b o e)
    walk_at "go"
    refine dget (v := .int (fw m)) (.inl m) h2 (valD hm) ?_
    walk_at "go"
    refine w_mid (fun σ' H' => σ' = [some (.ref t), some (.int m), some a, some b, some c, some e, some (.int (fw m))] ∧ Same H H' ∧ isWd a = true) ?_ fun σ' H3 ⟨es, s3, ha⟩ => ?_
    · walk_at "go"
      refine ⟨a, da, rfl, oa.same s2, _, rfl, ?_⟩
      have bad : ∀ G, Same H G → isWd a = false → ∀ (p : Addr) (G2 : Hp), p ≠ sysModules → G2 p = some (.lst [.str "width", a]) → Same G G2 → rReprA [.ref p] G2 Q := fun G sG hwd p G2 m5 h5 s5 =>
        rep_due (oa.same sG) ka (.inl rfl) (fun H' s' => q1 0 a da H' (first0 hwd) oa ka (sG.trans s')) m5 h5 s5
      cases a with
      | int w0 =>
        refine iteF ?_
        walk_at "go"
        refine new (show 3 ≤ sizeLine by decide) fun t3 H3 n3 h3 s3 => ?_
        refine ⟨t3, _, rfl, .inr (SqT.of h3), rfl, rfl, ?_⟩
        try refine ⟨_, rfl, ?_⟩
        rw [inV8, if_pos rfl]
        cases hw : wd w0 with
        | true =>
          refine iteF ?_
          walk_at "go"
          exact ⟨rfl, s2.trans s3, hw⟩
        | false =>
          refine iteT ?_
          walk_at "go"
          refine w_lstB ?_
          walk_at "go"
          refine newB (by show 2 ≤ sizeLine; decide) fun p5 H8 n5 m5 h5 s5 => ?_
          walk_at "go"
          exact bad _ (s2.trans s3) hw p5 H8 m5 h5 s5
      | _ =>
        refine iteT ?_
        walk_at "go"
        refine iteT ?_
        walk_at "go"
        refine w_lstB ?_
        walk_at "go"
        refine newB (by show 2 ≤ sizeLine; decide) fun p5 H8 n5 m5 h5 s5 => ?_
        walk_at "go"
        exact bad _ s2 rfl p5 H8 m5 h5 s5
    · subst es
      obtain ⟨w0, rfl, h1⟩ := isWd_of ha
      obtain rfl := ham w0 rfl h1
      refine w_mid (fun σ' H' => σ' = [some (.ref t), some (.int w0), some (.int w0), some b, some c, some e, some (.int (fw w0))] ∧ Same H H' ∧ isSh (-w0) w0 b = true) ?_ fun σ' H4 ⟨es, s4, hb⟩ => ?_
      · have bad : ∀ G, Same H G → isSh (-w0) w0 b = false → ∀ (p : Addr) (G2 : Hp), p ≠ sysModules → G2 p = some (.lst [.str "shift", b]) → Same G G2 → rReprA [.ref p] G2 Q := fun G sG hs p G2 m5 h5 s5 =>
          rep_due (ob.same sG) kb (.inr (.inr rfl)) (fun H' s' => q1 3 b db H' (first1 h1 hs) ob kb (sG.trans s')) m5 h5 s5
        walk_at "go"
        refine ⟨b, db, rfl, ob.same s3, _, rfl, ?_⟩
        cases b with
        | int v =>
          refine iteF ?_
          walk_at "go"
          rw [Int.zero_sub]
          cases h1 : decide (-w0 ≤ v) with
          | true =>
            refine iteT ?_
            walk_at "go"
            try refine ⟨_, rfl, ?_⟩
            cases h2 : decide (v ≤ w0) with
            | true =>
              refine iteF ?_
              walk_at "go"
              exact ⟨rfl, s3, by show (decide (-w0 ≤ v) && decide (v ≤ w0)) = true; rw [h1, h2]; rfl⟩
            | false =>
              refine iteT ?_
              walk_at "go"
              refine w_lstB ?_
              walk_at "go"
              refine newB (by show 2 ≤ sizeLine; decide) fun p5 H8 n5 m5 h5 s5 => ?_
              walk_at "go"
              exact bad _ s3 (by show (decide (-w0 ≤ v) && decide (v ≤ w0)) = false; rw [h1, h2]; rfl) p5 H8 m5 h5 s5
          | false =>
            refine iteF ?_
            walk_at "go"
            try refine ⟨_, rfl, ?_⟩
            walk_at "go"
            refine newB (by show 2 ≤ sizeLine; decide) fun p5 H8 n5 m5 h5 s5 => ?_
            walk_at "go"
            exact bad _ s3 (by show (decide (-w0 ≤ v) && _) = false; rw [h1]; rfl) p5 H8 m5 h5 s5
        | _ =>
          refine iteT ?_
          walk_at "go"
          refine iteT ?_
          walk_at "go"
          refine w_lstB ?_
          walk_at "go"
          refine newB (by show 2 ≤ sizeLine; decide) fun p5 H8 n5 m5 h5 s5 => ?_
          walk_at "go"
          exact bad _ s3 rfl p5 H8 m5 h5 s5
      · subst es
        refine w_mid (fun σ' H' => σ' = [some (.ref t), some (.int w0), some (.int w0), some b, some c, some e, some (.int (fw w0))] ∧ Same H H' ∧ (c = .non ∨ isW w0 c = true)) ?_ fun σ' H5 ⟨es, s5, hc⟩ => ?_
        · have bad : ∀ G, Same H G → c ≠ .non → isW w0 c = false → ∀ (p : Addr) (G2 : Hp), p ≠ sysModules → G2 p = some (.lst [.str "word", c]) → Same G G2 → rReprA [.ref p] G2 Q := fun G sG hn hs p G2 m5 h5 s5 =>
            rep_due (oc.same sG) kc (.inr (.inl rfl)) (fun H' s' => q1 2 c dc H' (first2 h1 hb hn hs) oc kc (sG.trans s')) m5 h5 s5
          walk_at "go"
          refine ⟨rfl, ?_⟩
          walk_at "go"
          try refine ⟨_, rfl, ?_⟩
          by_cases hn : c = .non
          · rw [decide_eq_true hn]
            refine iteF ?_
            refine iteF ?_
            walk_at "go"
            exact ⟨rfl, s4, .inl hn⟩
          · rw [decide_eq_false hn]
            refine iteT ?_
            walk_at "go"
            refine ⟨c, dc, rfl, oc.same s4, _, rfl, ?_⟩
            cases c with
            | int v =>
              refine iteF ?_
              walk_at "go"
              cases h3 : decide (0 ≤ v) with
              | true =>
                refine iteT ?_
                walk_at "go"
                try refine ⟨_, rfl, ?_⟩
                cases h4 : decide (v ≤ fw w0) with
                | true =>
                  refine iteF ?_
                  walk_at "go"
                  exact ⟨rfl, s4, .inr (by show (decide (0 ≤ v) && decide (v ≤ fw w0)) = true; rw [h3, h4]; rfl)⟩
                | false =>
                  refine iteT ?_
                  walk_at "go"
                  refine w_lstB ?_
                  walk_at "go"
                  refine newB (by show 2 ≤ sizeLine; decide) fun p5 H8 n5 m5 h5 s5 => ?_
                  walk_at "go"
                  exact bad _ s4 hn (by show (decide (0 ≤ v) && decide (v ≤ fw w0)) = false; rw [h3, h4]; rfl) p5 H8 m5 h5 s5
              | false =>
                refine iteF ?_
                walk_at "go"
                try refine ⟨_, rfl, ?_⟩
                walk_at "go"
                refine newB (by show 2 ≤ sizeLine; decide) fun p5 H8 n5 m5 h5 s5 => ?_
                walk_at "go"
                exact bad _ s4 hn (by show (decide (0 ≤ v) && _) = false; rw [h3]; rfl) p5 H8 m5 h5 s5
            | _ =>
              refine iteT ?_
              walk_at "go"
              refine iteT ?_
              walk_at "go"
              refine w_lstB ?_
              walk_at "go"
              refine newB (by show 2 ≤ sizeLine; decide) fun p5 H8 n5 m5 h5 s5 => ?_
              walk_at "go"
              exact bad _ s4 hn rfl p5 H8 m5 h5 s5
        · subst es
          have bad : ∀ G, Same H G → isW w0 e = false → ∀ (p : Addr) (G2 : Hp), p ≠ sysModules → G2 p = some (.lst [.str "word", e]) → Same G G2 → rReprA [.ref p] G2 Q := fun G sG hs p G2 m5 h5 s5 =>
            rep_due (oe.same sG) ke (.inr (.inl rfl)) (fun H' s' => q1 2 e de H' (first3 h1 hb hc hs) oe ke (sG.trans s')) m5 h5 s5
          have good : isW w0 e = true → Q (.str "") H5 := fun z => q2 H5 (first4 h1 hb hc z) s5
          refine w_mid (fun σ' H' => H' = H5 ∧ isW w0 e = true) ?_ fun σ' H6 ⟨e6, he⟩ => ?_
          · walk_at "go"
            refine ⟨e, de, rfl, oe.same s5, _, rfl, ?_⟩
            cases e with
            | int v =>
              refine iteF ?_
              walk_at "go"
              cases h3 : decide (0 ≤ v) with
              | true =>
                refine iteT ?_
                walk_at "go"
                try refine ⟨_, rfl, ?_⟩
                cases h4 : decide (v ≤ fw w0) with
                | true =>
                  refine iteF ?_
                  walk_at "go"
                  exact ⟨rfl, by show (decide (0 ≤ v) && decide (v ≤ fw w0)) = true; rw [h3, h4]; rfl⟩
                | false =>
                  refine iteT ?_
                  walk_at "go"
                  refine w_lstB ?_
                  walk_at "go"
                  refine newB (by show 2 ≤ sizeLine; decide) fun p5 H8 n5 m5 h5 s5' => ?_
                  walk_at "go"
                  exact bad _ s5 (by show (decide (0 ≤ v) && decide (v ≤ fw w0)) = false; rw [h3, h4]; rfl) p5 H8 m5 h5 s5'
              | false =>
                refine iteF ?_
                walk_at "go"
                try refine ⟨_, rfl, ?_⟩
                walk_at "go"
                refine newB (by show 2 ≤ sizeLine; decide) fun p5 H8 n5 m5 h5 s5' => ?_
                walk_at "go"
                exact bad _ s5 (by show (decide (0 ≤ v) && _) = false; rw [h3]; rfl) p5 H8 m5 h5 s5'
            | _ =>
              refine iteT ?_
              walk_at "go"
              refine iteT ?_
              walk_at "go"
              refine w_lstB ?_
              walk_at "go"
              refine newB (by show 2 ≤ sizeLine; decide) fun p5 H8 n5 m5 h5 s5' => ?_
              walk_at "go"
              exact bad _ s5 rfl p5 H8 m5 h5 s5'
          · subst e6
            walk_at "go"
            exact good he
end
end Law

set_option Elab.async false
set_option linter.all false
set_option maxRecDepth 100000
set_option maxHeartbeats 4000000
namespace Law
open PySem PySem.Spec PySem.Calls PyProof.Rows L2 KG LamX
local macro_rules | `(tactic| walk_at "1") => `(tactic| first
  | (with_reducible refine w_var rfl ?_) | (with_reducible refine w_c ?_) | (with_reducible refine w_seq ?_) | (with_reducible refine w_asg ?_) | (with_reducible refine w_gname ?_) | (with_reducible refine w_op ?_) | (with_reducible refine w_un ?_)
  | (with_reducible refine w_add ?_) | (with_reducible refine w_sub ?_) | ((with_reducible refine' w_mod ?mo ?_); (case mo => first | assumption | decide | omega)) | (with_reducible refine w_and ?_) | (with_reducible refine w_or ?_) | (with_reducible refine w_xor ?_)
  | (with_reducible refine w_gt ?_) | (with_reducible refine w_lt ?_) | (with_reducible refine w_ge ?_) | (with_reducible refine w_le ?_) | ((with_reducible refine' w_eq ?sc ?_); (case sc => rfl)) | ((with_reducible refine' w_ne ?sc ?_); (case sc => rfl))
  | (with_reducible refine w_ret ?_) | (with_reducible refine w_next ?_) | (with_reducible refine w_ifs ?_) | (with_reducible refine w_ifx ?_) | (with_reducible refine w_test ?_) | (with_reducible refine w_tB ?_) | (with_reducible refine w_bl ?_)
  | ((with_reducible refine' w_ixL ?ixh ?ixa ?_); (case ixh => first | exact SqL.of (by assumption)); (case ixa => first | rfl | skip)) | ((with_reducible refine' w_ixT ?ixh ?ixa ?_); (case ixh => first | exact SqT.of (by assumption)); (case ixa => first | rfl | skip))
  | ((with_reducible refine' w_fld ?_)) | ((with_reducible refine' fld ?fh ?fc ?fn ?fl ?_); (case fh => assumption); (case fc => assumption); (case fn => assumption); (case fl => rfl)) | (with_reducible refine w_sfld ?_)
  | (with_reducible refine Or.inl ⟨_, rfl, ?_⟩) | (with_reducible refine w_gsub ?_) | (with_reducible refine w_andV ?_) | (with_reducible refine w_orV ?_)
  | (with_reducible refine w_nil ?_) | (with_reducible refine w_cons ?_) | (with_reducible refine w_tup ?_) | (with_reducible refine w_lst ?_) | (with_reducible refine w_and2 ?_) | (with_reducible refine w_or2 ?_) | (with_reducible refine w_not ?_) | (with_reducible refine w_cb ?_) | (with_reducible refine w_call ?_) | (with_reducible refine w_par ?_) | (with_reducible refine w_pnil ?_) | (with_reducible refine w_pcons ?_) | (with_reducible refine w_dput ?_) | (with_reducible refine w_dget ?_) | (with_reducible refine w_for ?_) | (with_reducible refine w_itup ?_) | (with_reducible refine w_ilist ?_) | (with_reducible refine w_irng ?_) | (with_reducible refine w_meth ?_) | (with_reducible refine w_make ?_) | (with_reducible refine w_makeK ?_) | (with_reducible refine w_methK ?_) | ((with_reducible refine' mth ?mh ?ml ?_); (case mh => assumption); (case ml => rfl)) | (with_reducible refine w_drop ?_))
local macro_rules | `(tactic| walk_at "go") => `(tactic| ((repeat (walk_at "1")); try dsimp only))
local macro_rules | `(tactic| walk_at "1") => `(tactic| first
  | (with_reducible refine w_notV ?_) | (with_reducible refine w_callK ?_) | (with_reducible refine w_lc ?_) | (with_reducible refine w_chain ?_) | (with_reducible refine w_neg ?_) | ((with_reducible refine' w_shr ?mo ?_); (case mo => first | assumption | omega)))
theorem fw_nat {w : Int} (h : wd w = true) : fw w = ((fullN w.toNat : Nat) : Int) := by
  rcases wd_of h with rfl | rfl | rfl <;> rfl
theorem shf_nat {w s : Int} {v : Nat} (hv : v < 2 ^ w.toNat) : shf (v : Int) s w = ((gN w.toNat s v : Nat) : Int) := by
  unfold shf gN
  by_cases h : s < 0
  · rw [if_pos h, if_pos h, Nat.shiftRight_eq_div_pow]
    simp
  · rw [if_neg h, if_neg h, Nat.shiftLeft_eq]
    show Builtin.bitAnd ((v : Int) * 2 ^ s.toNat) (1 * 2 ^ w.toNat - 1) = _
    rw [and_pow (Int.mul_nonneg (Int.natCast_nonneg v) (Int.le_of_lt (Int.pow_pos (by decide))))]
    simp
/-- the blend of some numbers -/
def BN (w s : Int) (k f : Nat) : Bq := ⟨w, sN w.toNat s k, (kN w.toNat s k : Nat), (f : Nat)⟩
/-- .. its results -/
def RN (w s : Int) (k f v : Nat) : Nat := FN w.toNat s (kN w.toNat s k) f v
structure NumOk (w s : Int) (k f : Nat) : Prop where
  lo : -w ≤ s
  hi : s ≤ w
  k : k < 2 ^ w.toNat
  f : f < 2 ^ w.toNat
theorem norm_nat {w s : Int} {k f : Nat} (h : wd w = true) : norm w s (k : Int) (f : Int) = BN w s k f := by
  unfold norm BN sN
  have e : Builtin.bitAnd (k : Int) (shf (fw w) s w) = ((kN w.toNat s k : Nat) : Int) := by
    rw [fw_nat h, shf_nat (full_lt _), PyProof.Rows.bitAnd_pp (Int.natCast_nonneg _) (Int.natCast_nonneg _)]
    rfl
  rw [e]
  dsimp only
  by_cases z : kN w.toNat s k = 0
  · rw [if_pos z, z]; rfl
  · rw [if_neg z, if_neg (by omega)]
theorem NumOk.okN {w s : Int} {k f : Nat} (h : wd w = true) (o : NumOk w s k f) : okN w s (k : Int) (f : Int) = true := by
  unfold Law.okN
  simp only [Bool.and_eq_true, decide_eq_true_eq]
  exact ⟨⟨⟨⟨⟨⟨h, o.lo⟩, o.hi⟩, Int.natCast_nonneg _⟩, (fw_pow h).mpr o.k⟩, Int.natCast_nonneg _⟩, (fw_pow h).mpr o.f⟩
theorem kN_lt {w : Nat} {s : Int} {k : Nat} (h : k < 2 ^ w) : kN w s k < 2 ^ w := Nat.lt_of_le_of_lt Nat.and_le_left h
theorem BN_ok {w s : Int} {k f : Nat} (h : wd w = true) (o : NumOk w s k f) : (BN w s k f).ok = true := by
  have : NumOk w (sN w.toNat s k) (kN w.toNat s k) f := by
    refine ⟨?_, ?_, kN_lt o.k, o.f⟩
    · unfold sN; split
      · have := wd_of h; omega
      · exact o.lo
    · unfold sN; split
      · have := wd_of h; omega
      · exact o.hi
  exact this.okN h
theorem cal_nat {w s : Int} {k f v : Nat} (hv : v < 2 ^ w.toNat) : calB (BN w s k f) (v : Int) = ((RN w s k f v : Nat) : Int) := by
  unfold calB BN RN
  dsimp only
  rw [shf_nat hv, PyProof.Rows.bitAnd_pp (Int.natCast_nonneg _) (Int.natCast_nonneg _), Bits.bitXor_pp (Int.natCast_nonneg _) (Int.natCast_nonneg _)]
  simp only [Int.toNat_natCast]
  rw [← FN_norm]
  rfl
theorem RN_lt {w s : Int} {k f v : Nat} (o : NumOk w s k f) : RN w s k f v < 2 ^ w.toNat := FN_lt (kN_lt o.k) o.f
theorem RN_xor {w s : Int} {k f : Nat} : ∀ a b, a < 2 ^ w.toNat → b < 2 ^ w.toNat → RN w s k f (a ^^^ b) = RN w s k f a ^^^ RN w s k f b ^^^ RN w s k f 0 := fun _ _ => FN_xor
/-! ### what a blend is, told by its results -/
def Rep (w : Int) (b : Bq) (g : Nat → Nat) : Prop := ∃ (s : Int) (k f : Nat), NumOk w s k f ∧ b = BN w s k f ∧ ∀ v, v < 2 ^ w.toNat → RN w s k f v = g v
theorem Rep.ok {w : Int} {b : Bq} {g : Nat → Nat} (hw : wd w = true) (h : Rep w b g) : b.ok = true := by
  obtain ⟨s, k, f, o, rfl, _⟩ := h
  exact BN_ok hw o
theorem Rep.wd {w : Int} {b : Bq} {g : Nat → Nat} (h : Rep w b g) : b.w = w := by
  obtain ⟨s, k, f, o, rfl, _⟩ := h
  rfl
theorem BN_num {w s : Int} {k f : Nat} (hw : wd w = true) (o : NumOk w s k f) : NumOk w (sN w.toNat s k) (kN w.toNat s k) f := by
  refine ⟨?_, ?_, kN_lt o.k, o.f⟩
  · unfold sN; split
    · have := wd_of hw; omega
    · exact o.lo
  · unfold sN; split
    · have := wd_of hw; omega
    · exact o.hi
theorem rep_begin {w s : Int} {k f : Nat} (hw : wd w = true) (o : NumOk w s k f) : Rep w (norm w s k f) (fun v => (gN w.toNat s v &&& k) ^^^ f) :=
  ⟨s, k, f, o, norm_nat hw, fun v hv => st_begin hv⟩
theorem rep_and {w : Int} {b : Bq} {g : Nat → Nat} {n : Nat} (hw : wd w = true) (hn : n < 2 ^ w.toNat) (h : Rep w b g) : Rep w (gAnd b n) (fun v => g v &&& n) := by
  obtain ⟨s, k, f, o, rfl, e⟩ := h
  have o1 := BN_num hw o
  refine ⟨sN w.toNat s k, kN w.toNat s k &&& n, f &&& n, ⟨o1.lo, o1.hi, Nat.lt_of_le_of_lt Nat.and_le_left o1.k, Nat.lt_of_le_of_lt Nat.and_le_left o1.f⟩, ?_, fun v hv => ?_⟩
  · unfold gAnd BN
    dsimp only
    rw [PyProof.Rows.bitAnd_pp (Int.natCast_nonneg _) (Int.natCast_nonneg _), PyProof.Rows.bitAnd_pp (Int.natCast_nonneg _) (Int.natCast_nonneg _)]
    exact norm_nat hw
  · show _ = g v &&& n
    rw [← e v hv]
    exact st_and
theorem rep_or {w : Int} {b : Bq} {g : Nat → Nat} {n : Nat} (hw : wd w = true) (hn : n < 2 ^ w.toNat) (h : Rep w b g) : Rep w (gOr b n) (fun v => g v ||| n) := by
  obtain ⟨s, k, f, o, rfl, e⟩ := h
  have o1 := BN_num hw o
  refine ⟨sN w.toNat s k, kN w.toNat s k &&& (n ^^^ fullN w.toNat), f ||| n, ⟨o1.lo, o1.hi, Nat.lt_of_le_of_lt Nat.and_le_left o1.k, Nat.or_lt_two_pow o1.f hn⟩, ?_, fun v hv => ?_⟩
  · unfold gOr BN
    dsimp only
    rw [fw_nat hw, Bits.bitXor_pp (Int.natCast_nonneg _) (Int.natCast_nonneg _), PyProof.Rows.bitAnd_pp (Int.natCast_nonneg _) (Int.natCast_nonneg _), Bits.bitOr_pp (Int.natCast_nonneg _) (Int.natCast_nonneg _)]
    exact norm_nat hw
  · show _ = g v ||| n
    rw [← e v hv]
    exact st_or
theorem rep_xor {w : Int} {b : Bq} {g : Nat → Nat} {n : Nat} (hw : wd w = true) (hn : n < 2 ^ w.toNat) (h : Rep w b g) : Rep w (gXor b n) (fun v => g v ^^^ n) := by
  obtain ⟨s, k, f, o, rfl, e⟩ := h
  have o1 := BN_num hw o
  refine ⟨sN w.toNat s k, kN w.toNat s k, f ^^^ n, ⟨o1.lo, o1.hi, o1.k, Nat.xor_lt_two_pow o1.f hn⟩, ?_, fun v hv => ?_⟩
  · unfold gXor BN
    dsimp only
    rw [Bits.bitXor_pp (Int.natCast_nonneg _) (Int.natCast_nonneg _)]
    exact norm_nat hw
  · show _ = g v ^^^ n
    rw [← e v hv]
    exact st_xor
theorem rep_inv {w : Int} {b : Bq} {g : Nat → Nat} (hw : wd w = true) (h : Rep w b g) : Rep w (gXor b (fw b.w)) (fun v => g v ^^^ fullN w.toNat) := by
  rw [h.wd, fw_nat hw]
  exact rep_xor hw (full_lt _) h
theorem dI2 {w t : Int} (hw : wd w = true) : norm w t (fw w) 0 = BN w t (fullN w.toNat) 0 := by
  rw [fw_nat hw]
  exact norm_nat hw
/-- what is moved on, its numbers -/
theorem rep_mv {w t : Int} {b : Bq} {g : Nat → Nat} (hw : wd w = true) (t0 : -w ≤ t) (t1 : t ≤ w) (h : Rep w b g) :
    okN w (if Builtin.bitAnd (shf b.k (norm w t (fw w) 0).s w) (norm w t (fw w) 0).k = 0 then 0 else b.s + (norm w t (fw w) 0).s) (Builtin.bitAnd (shf b.k (norm w t (fw w) 0).s w) (norm w t (fw w) 0).k) (Builtin.bitXor (Builtin.bitAnd (shf b.f (norm w t (fw w) 0).s w) (norm w t (fw w) 0).k) (norm w t (fw w) 0).f) = true ∧
    (norm w t (fw w) 0).ok = true ∧ Rep w (gThen b (norm w t (fw w) 0)) (fun v => gN w.toNat t (g v)) := by
  obtain ⟨s, k, f, o, rfl, e⟩ := h
  have o1 := BN_num hw o
  have w0 : 0 ≤ w := by have := wd_of hw; omega
  have ew : ((w.toNat : Nat) : Int) = w := by omega
  have oc : NumOk w t (fullN w.toNat) 0 := ⟨t0, t1, full_lt _, Nat.pow_pos (by decide)⟩
  have ek : Builtin.bitAnd (shf (BN w s k f).k (norm w t (fw w) 0).s w) (norm w t (fw w) 0).k = ((gN w.toNat t (kN w.toNat s k) : Nat) : Int) := by
    rw [dI2 hw]
    unfold BN
    dsimp only
    rw [shf_nat o1.k, PyProof.Rows.bitAnd_pp (Int.natCast_nonneg _) (Int.natCast_nonneg _)]
    simp only [Int.toNat_natCast]
    rw [gN_keep o1.k]
  have ef : Builtin.bitXor (Builtin.bitAnd (shf (BN w s k f).f (norm w t (fw w) 0).s w) (norm w t (fw w) 0).k) (norm w t (fw w) 0).f = ((gN w.toNat t f : Nat) : Int) := by
    rw [dI2 hw]
    unfold BN
    dsimp only
    rw [shf_nat o1.f, PyProof.Rows.bitAnd_pp (Int.natCast_nonneg _) (Int.natCast_nonneg _), Bits.bitXor_pp (Int.natCast_nonneg _) (by decide)]
    simp only [Int.toNat_natCast]
    rw [gN_keep o1.f]
    simp
  have es : (if Builtin.bitAnd (shf (BN w s k f).k (norm w t (fw w) 0).s w) (norm w t (fw w) 0).k = 0 then 0 else (BN w s k f).s + (norm w t (fw w) 0).s) = mvS w.toNat s t k := by
    rw [ek]
    unfold mvS
    rw [dI2 hw]
    unfold BN
    dsimp only
    by_cases z : gN w.toNat t (kN w.toNat s k) = 0
    · rw [if_pos (by rw [z]; rfl), if_pos z]
    · rw [if_neg (by omega), if_neg z]
  obtain ⟨r1, r2⟩ := mv_range (w := w.toNat) (s := s) (t := t) o.k
  have on : NumOk w (mvS w.toNat s t k) (gN w.toNat t (kN w.toNat s k)) (gN w.toNat t f) := ⟨by omega, by omega, gN_lt o1.k, gN_lt o.f⟩
  refine ⟨?_, ?_, ?_⟩
  · rw [es, ek, ef]
    exact on.okN hw
  · rw [dI2 hw]
    exact BN_ok hw oc
  · refine ⟨mvS w.toNat s t k, gN w.toNat t (kN w.toNat s k), gN w.toNat t f, on, ?_, fun v hv => ?_⟩
    · unfold gThen
      dsimp only
      rw [show (BN w s k f).w = w from rfl, es, ek, ef]
      exact norm_nat hw
    · show _ = gN w.toNat t (g v)
      rw [← e v hv]
      exact st_mv o.k o.f hv
theorem norm_ok {w s k f : Int} (h : okN w s k f = true) : (norm w s k f).ok = true := by
  obtain ⟨h1, h2, h3, h4, h5, h6, h7⟩ := okN_of h
  obtain ⟨kn, rfl⟩ := Int.eq_ofNat_of_zero_le h4
  obtain ⟨fn, rfl⟩ := Int.eq_ofNat_of_zero_le h6
  rw [norm_nat h1]
  exact BN_ok h1 ⟨h2, h3, (fw_pow h1).mp h5, (fw_pow h1).mp h7⟩
theorem norm_rep {w s k f : Int} (h : okN w s k f = true) : ∃ g, Rep w (norm w s k f) g := by
  obtain ⟨h1, h2, h3, h4, h5, h6, h7⟩ := okN_of h
  obtain ⟨kn, rfl⟩ := Int.eq_ofNat_of_zero_le h4
  obtain ⟨fn, rfl⟩ := Int.eq_ofNat_of_zero_le h6
  exact ⟨_, rep_begin h1 ⟨h2, h3, (fw_pow h1).mp h5, (fw_pow h1).mp h7⟩⟩
theorem cut_pre {z r : Str} {n : Int} {m : Nat} (hn : n = m) (hm : m ≤ z.cps.size) : cutS (z ++ r) none (some n) = ⟨(z.cps.toList.take m).toArray⟩ := by
  subst hn
  have e : (z ++ r).cps = z.cps ++ r.cps := rfl
  have l : (z ++ r).length = z.cps.size + r.cps.size := by
    show (z ++ r).cps.size = _
    rw [e, Array.size_append]
  unfold cutS HT.sIx
  dsimp only
  rw [if_neg (by omega), Int.toNat_natCast, l, Nat.min_eq_left (by omega), e, Array.toList_append, List.drop_zero, Nat.sub_zero, List.take_append_of_le_length (by rw [Array.length_toList]; exact hm)]
theorem str_assoc (a b c : Str) : a ++ b ++ c = a ++ (b ++ c) := congrArg Str.mk (Array.append_assoc ..)
theorem told_pre (t : Str) : listText [reprText "told", t] = ("['told', " : Str) ++ (t ++ "]") := by
  have e1 : listText [reprText "told", t] = (((Str.ofString "[" ++ Str.ofString "" ++ reprText "told") ++ Str.ofString ", ") ++ t) ++ Str.ofString "]" := rfl
  have e2 : ((Str.ofString "[" ++ Str.ofString "" ++ reprText "told") ++ Str.ofString ", ") = ("['told', " : Str) := by decide +kernel
  rw [e1, e2, str_assoc]
theorem cut7 (t : Str) : cutS (listText [reprText "told", t]) none (some 7) = "['told'" := by
  rw [told_pre]
  exact (cut_pre (n := 7) (m := 7) rfl (by decide +kernel)).trans (by decide +kernel)
theorem rp_pre (b : Bq) : ∃ r, rp b = ("Blend(" : Str) ++ r := by
  unfold rp
  have e0 : (Str.empty ++ "Blend(" : Str) = "Blend(" := by decide +kernel
  rw [e0]
  simp only [str_assoc]
  exact ⟨_, rfl⟩
theorem cut14 (b : Bq) : cutS (listText [reprText "told", rp b]) none (some 14) = "['told', Blend" := by
  obtain ⟨r, e⟩ := rp_pre b
  have e2 : ∀ x y : Str, ("['told', " : Str) ++ ("Blend(" ++ x ++ y) = "['told', Blend(" ++ (x ++ y) := fun x y => by
    rw [str_assoc, ← str_assoc]
    rfl
  rw [told_pre, e, e2]
  exact (cut_pre (n := 14) (m := 14) rfl (by decide +kernel)).trans (by decide +kernel)
theorem err_pre (z : Str) (d : PyData) : (PyData.list [.str z, d]).shown = (Str.ofString "[" ++ Str.ofString "" ++ (PyData.str z).shown ++ Str.ofString ", ") ++ (d.shown ++ "]") := by
  rw [list_text, PyData.shownAll_cons, PyData.shownAll_cons, PyData.shownAll_nil]
  show (((Str.ofString "[" ++ Str.ofString "" ++ (PyData.str z).shown) ++ Str.ofString ", ") ++ d.shown) ++ Str.ofString "]" = _
  rw [str_assoc]
theorem word7 (d : PyData) : cutS (PyData.list [.str "word", d]).shown none (some 7) = "['word'" := by
  rw [err_pre]
  exact (cut_pre (n := 7) (m := 7) rfl (by decide +kernel)).trans (by decide +kernel)
theorem err_ne (z : Str) (d : PyData) : (PyData.list [.str z, d]).shown ≠ "" := fun h => by
  have l : (PyData.list [.str z, d]).shown.length = 0 := by rw [h]; rfl
  rw [err_pre, strLen_append, strLen_append, strLen_append, strLen_append] at l
  have : (Str.ofString "[" : Str).length = 1 := rfl
  omega
theorem told_int (v : Int) : (PyData.list [.str "told", .int v]).shown = listText [reprText "told", (PyData.int v).shown] := by
  rw [list_text, PyData.shownAll_cons, PyData.shownAll_cons, PyData.shownAll_nil, PyData.shown_str]
theorem first_of {a b c e v : V} {i : Nat} (h : firstX a b c e = some (i, v)) : (i = 0 ∨ i = 2 ∨ i = 3) ∧ (v = a ∨ v = b ∨ v = c ∨ v = e) := by
  unfold firstX at h
  split at h
  · split at h
    · cases h; exact ⟨.inl rfl, .inl rfl⟩
    · split at h
      · cases h; exact ⟨.inr (.inr rfl), .inr (.inl rfl)⟩
      · split at h
        · cases h; exact ⟨.inr (.inl rfl), .inr (.inr (.inl rfl))⟩
        · split at h
          · cases h; exact ⟨.inr (.inl rfl), .inr (.inr (.inr rfl))⟩
          · cases h
  · cases h; exact ⟨.inl rfl, .inl rfl⟩
end Law

set_option Elab.async false
set_option linter.all false
set_option maxRecDepth 100000
set_option maxHeartbeats 4000000
namespace Law
open PySem PySem.Spec PySem.Calls PyProof.Rows L2 KG LamX
local macro_rules | `(tactic| walk_at "1") => `(tactic| first
  | (with_reducible refine w_var rfl ?_) | (with_reducible refine w_c ?_) | (with_reducible refine w_seq ?_) | (with_reducible refine w_asg ?_) | (with_reducible refine w_gname ?_) | (with_reducible refine w_op ?_) | (with_reducible refine w_un ?_)
  | (with_reducible refine w_add ?_) | (with_reducible refine w_sub ?_) | ((with_reducible refine' w_mod ?mo ?_); (case mo => first | assumption | decide | omega)) | (with_reducible refine w_and ?_) | (with_reducible refine w_or ?_) | (with_reducible refine w_xor ?_)
  | (with_reducible refine w_gt ?_) | (with_reducible refine w_lt ?_) | (with_reducible refine w_ge ?_) | (with_reducible refine w_le ?_) | ((with_reducible refine' w_eq ?sc ?_); (case sc => rfl)) | ((with_reducible refine' w_ne ?sc ?_); (case sc => rfl))
  | (with_reducible refine w_ret ?_) | (with_reducible refine w_next ?_) | (with_reducible refine w_ifs ?_) | (with_reducible refine w_ifx ?_) | (with_reducible refine w_test ?_) | (with_reducible refine w_tB ?_) | (with_reducible refine w_bl ?_)
  | ((with_reducible refine' w_ixL ?ixh ?ixa ?_); (case ixh => first | exact SqL.of (by assumption)); (case ixa => first | rfl | skip)) | ((with_reducible refine' w_ixT ?ixh ?ixa ?_); (case ixh => first | exact SqT.of (by assumption)); (case ixa => first | rfl | skip))
  | ((with_reducible refine' w_fld ?_)) | ((with_reducible refine' fld ?fh ?fc ?fn ?fl ?_); (case fh => assumption); (case fc => assumption); (case fn => assumption); (case fl => rfl)) | (with_reducible refine w_sfld ?_)
  | (with_reducible refine Or.inl ⟨_, rfl, ?_⟩) | (with_reducible refine w_gsub ?_) | (with_reducible refine w_andV ?_) | (with_reducible refine w_orV ?_)
  | (with_reducible refine w_nil ?_) | (with_reducible refine w_cons ?_) | (with_reducible refine w_tup ?_) | (with_reducible refine w_lst ?_) | (with_reducible refine w_and2 ?_) | (with_reducible refine w_or2 ?_) | (with_reducible refine w_not ?_) | (with_reducible refine w_cb ?_) | (with_reducible refine w_call ?_) | (with_reducible refine w_par ?_) | (with_reducible refine w_pnil ?_) | (with_reducible refine w_pcons ?_) | (with_reducible refine w_dput ?_) | (with_reducible refine w_dget ?_) | (with_reducible refine w_for ?_) | (with_reducible refine w_itup ?_) | (with_reducible refine w_ilist ?_) | (with_reducible refine w_irng ?_) | (with_reducible refine w_meth ?_) | (with_reducible refine w_make ?_) | (with_reducible refine w_makeK ?_) | (with_reducible refine w_methK ?_) | ((with_reducible refine' mth ?mh ?ml ?_); (case mh => assumption); (case ml => rfl)) | (with_reducible refine w_drop ?_))
local macro_rules | `(tactic| walk_at "go") => `(tactic| ((repeat (walk_at "1")); try dsimp only))
local macro_rules | `(tactic| walk_at "1") => `(tactic| first
  | (with_reducible refine w_notV ?_) | (with_reducible refine w_callK ?_) | (with_reducible refine w_lc ?_) | (with_reducible refine w_chain ?_) | (with_reducible refine w_neg ?_) | ((with_reducible refine' w_shr ?mo ?_); (case mo => first | assumption | omega)))
abbrev TT3 (P1 P2 P3 : Addr) : List (Addr × Str) := [(P1, ("_law_made_right" ++ ".<locals>." : Str) ++ "<lambda>"), (P2, ("_law_operations_right" ++ ".<locals>." : Str) ++ "<lambda>"), (P3, ("law" ++ ".<locals>." : Str) ++ "<lambda>")]
theorem tt1 {P1 P2 P3 : Addr} (h2 : P1 ≠ P2) (h3 : P1 ≠ P3) : ∀ p ∈ TT3 P1 P2 P3, p.1 = P1 → p.2 = ("_law_made_right" ++ ".<locals>." : Str) ++ "<lambda>" := fun p hp e => by
  simp only [List.mem_cons, List.not_mem_nil, or_false] at hp
  rcases hp with z | z | z
  · rw [z]
  · rw [z] at e; exact absurd e.symm h2
  · rw [z] at e; exact absurd e.symm h3
theorem tt2 {P1 P2 P3 : Addr} (h1 : P1 ≠ P2) (h3 : P2 ≠ P3) : ∀ p ∈ TT3 P1 P2 P3, p.1 = P2 → p.2 = ("_law_operations_right" ++ ".<locals>." : Str) ++ "<lambda>" := fun p hp e => by
  simp only [List.mem_cons, List.not_mem_nil, or_false] at hp
  rcases hp with z | z | z
  · rw [z] at e; exact absurd e h1
  · rw [z]
  · rw [z] at e; exact absurd e.symm h3
theorem tt3 {P1 P2 P3 : Addr} (h1 : P1 ≠ P3) (h2 : P2 ≠ P3) : ∀ p ∈ TT3 P1 P2 P3, p.1 = P3 → p.2 = ("law" ++ ".<locals>." : Str) ++ "<lambda>" := fun p hp e => by
  simp only [List.mem_cons, List.not_mem_nil, or_false] at hp
  rcases hp with z | z | z
  · rw [z] at e; exact absurd e h1
  · rw [z] at e; exact absurd e h2
  · rw [z]
theorem in1 {P1 P2 P3 : Addr} : (P1, ("_law_made_right" ++ ".<locals>." : Str) ++ "<lambda>") ∈ TT3 P1 P2 P3 := List.mem_cons_self
theorem in2 {P1 P2 P3 : Addr} : (P2, ("_law_operations_right" ++ ".<locals>." : Str) ++ "<lambda>") ∈ TT3 P1 P2 P3 := List.mem_cons_of_mem _ List.mem_cons_self
theorem in3 {P1 P2 P3 : Addr} : (P3, ("law" ++ ".<locals>." : Str) ++ "<lambda>") ∈ TT3 P1 P2 P3 := List.mem_cons_of_mem _ (List.mem_cons_of_mem _ List.mem_cons_self)
theorem pcL {X : Cx} {A : Around} {outer : List Env} {s : Shared} {H : Hp} {E : XK} {scope : Scope} {f c' : Addr} {j k : Nat} {x : Str} {ps : List Str} {sp : Sp} {p pos : Pos} {e : Expr} {es : List Expr} {t : TA} (c : CalX X.prog X.w X.K X.mg X.base j x ps sp) (rm : Room k (LamX.lamCx X A outer s H E scope f c').A) (hk : j ≤ k) (gd : (LamX.lamCx X A outer s H E scope f c').A.guards = some []) (gl : Gl (LamX.lamCx X A outer s H E scope f c') x) (ha : PA (LamX.lamCx X A outer s H E scope f c') (e :: es) t)
    (hdb : (x == ("__debug__" : Str)) = false := by decide) (he : starEach (e :: es) (LamX.lamCx X A outer s H E scope f c').env = (false, eval e (LamX.lamCx X A outer s H E scope f c').env) :: starEach es (LamX.lamCx X A outer s H E scope f c').env := by rfl) (hpl : (backTo pos (starEach es (LamX.lamCx X A outer s H E scope f c').env)).any (·.1) = false := by rfl) :
    PE (LamX.lamCx X A outer s H E scope f c') (.Call (.Name x p) (e :: es) [] pos) (tCall sp [] E t) := by
  obtain ⟨g, fd, a, kp, b, _, F⟩ := c
  exact pe_gcall (X := LamX.lamCx X A outer s H E scope f c') F (rm.mono hk) gd gl a kp b .nil pass_lam ha hdb he hpl
theorem Ov.ext {H H' : Hp} {x : V} {d : PyData} (e : ExtN H H') (h : Ov H x d) : Ov H' x d := by
  rcases h with h | h | h | h | ⟨a, o, z, ha, h⟩
  · exact .inl h
  · exact .inr (.inl h)
  · exact .inr (.inr (.inl h))
  · exact .inr (.inr (.inr (.inl h)))
  · refine .inr (.inr (.inr (.inr ⟨a, o, z, e _ _ ha fun ps y => ?_, h⟩)))
    rw [y] at h
    rcases h with ⟨h, _⟩ | ⟨h, _⟩ | ⟨h, _⟩ | ⟨h, _⟩ | ⟨h, _⟩ | ⟨h, _⟩ <;> cases h
theorem ItL.ext {H H' : Hp} {xs : List V} (h : ItL H xs) (e : ExtN H H') : ItL H' xs := h.map fun _ _ => Ov.ext e
theorem BlAt.ext {C : Addr} {H H' : Hp} {x : Addr} {b : Bq} (e : ExtN H H') (h : BlAt C H x b) : BlAt C H' x b := by
  obtain ⟨dx, h⟩ := h
  exact ⟨dx, e _ _ h nofun⟩
/-- the error of a value, heard -/
theorem heard_err {ce : Nat → Addr} {i : Nat} {G H : Hp} {x : V} {d : PyData} {E' : XK} {Q : VK} (hi : i = 0 ∨ i = 2 ∨ i = 3) (ov : Ov H x d) (ok : OkD d) (gs : Same G H) (hq : ∀ H2, Same G H2 → Q (.str (PyData.list [.str (ceT i), d]).shown) H2)
    (hE : ∀ cls d H', HErr ce Q cls d H' → E' cls d H') : tErrV E' H (ce i) x := fun dd H' s hd => by
  have hw : isWn (ceT i) := by
    rcases hi with rfl | rfl | rfl
    · exact .inl rfl
    · exact .inr (.inl rfl)
    · exact .inr (.inr rfl)
  obtain ⟨a, b, c⟩ := ok.s _ hw
  exact hE _ _ _ ⟨i, dd, x, d, by omega, rfl, rfl, hd, fun _ s2 => ((ov.same s).same s2).da, fun k _ s2 => ((ov.same s).same s2).dn k, a, b, Nat.le_trans c (by decide), fun H2 s2 => hq H2 (gs.trans (s.trans s2))⟩
def spMade (P1 P2 P3 : Addr) : Sp := fun vs H Q _ => ∃ (t : Addr) (m : Int) (a b c e : V) (da db dc de : PyData), vs = [.int m, .ref t] ∧ H t = some (.tup [a, b, c, e]) ∧ Ov H a da ∧ Ov H b db ∧ Ov H c dc ∧ Ov H e de ∧ OkD da ∧ OkD db ∧ OkD dc ∧ OkD de ∧ wd m = true ∧
  (∀ i, a = .int i → wd i = true → i = m) ∧ Tabs (TT3 P1 P2 P3) H ∧ ∀ H', ExtN H H' → Tabs (TT3 P1 P2 P3) H' → Q (.bl true) H'
section
variable {P : Program} {w : World} {K : PySem.W.Frag} {mg : Str → Option Value} {base : Heap} {C aL aP : Addr} {tl : Int → Addr}
theorem ok_made {fl cl0 P1 P2 P3 BE fT fR : Addr} {ce : Nat → Addr} {oc kV doc pm ct : Value} {an od : Option Addr} {osl : Array (Option Value)} {fd fdR : FuncData} (h2 : P1 ≠ P2) (h3 : P1 ≠ P3)
    (lk : K.lookup fl = some ⟨oc, od, .func (PySem.W.fnOf "_law_made_right" "_law_made_right" (defArgs s__law_made_right) (defBody s__law_made_right) (defScope s__law_made_right) .none kV doc pm an (.ref cl0) ct), osl⟩) (code : PySem.W.codeIn K (.ref cl0) "_law_made_right" = true)
    (TBt : TabB base mg cl0 P1) (T : T1 K w mg C aL aP tl) (B : B1 mg) (ER : Er K mg BE ce) (DH : DefAt K mg "_law_heard" s__law_heard ["_law_ask"]) (c_law_due : Cal P w K mg base 2 "_law_due" spDue)
    (FR : FnOk P w K mg base CX0 1 fR fdR ["self"] (spRp C)) (hsR : PySem.W.findIn K (.ref C) "__repr__" = some (some (.ref fR))) (hfR : PySem.W.isFn K (.ref fR) = true) (hbR : Binds K fdR ["self"] [])
    (MK : Mk K C fT) (FIN : Gd P w K mg base (L2.CX P w) 4 fT fd ["self", "width", "shift", "keep", "flip"] (spBI C ce)) (b5 : Binds K fd ["self", "width", "shift", "keep", "flip"] []) :
    Gd P w K mg base CX0 12 fl (PySem.W.fnOf "_law_made_right" "_law_made_right" (defArgs s__law_made_right) (defBody s__law_made_right) (defScope s__law_made_right) .none kV doc pm an (.ref cl0) ct) ["_law_width", "_law_numbers"] (spMade P1 P2 P3) := by
  have hu1 := tt1 (P1 := P1) (P2 := P2) (P3 := P3) h2 h3
  refine gd_of lk code sc__law_made_right (fun vs H Q E h => ?_) (fun A outer s H vs Q E rm gd h => ?_)
  · obtain ⟨t, m, a, b, c, e, da, db, dc, de, rfl, _⟩ := h
    rfl
  · obtain ⟨t, m, a, b, c, e, da, db, dc, de, rfl, ht, oa, ob, oc, oe, ka, kb, kc, ke, hm, ham, tabs, q⟩ := h
    suffices h : ∃ t', PSs (cxOf CX0 P w K mg base ["_law_width", "_law_numbers", "_law_due_here", "_law_heard_here"] "_law_made_right" (defScope s__law_made_right) fl (.ref cl0) A outer s H E).nox (defBody s__law_made_right) t' ∧ t' { nx := fun _ H' => Q .non H', rt := Q } (start ["_law_width", "_law_numbers", "_law_due_here", "_law_heard_here"] [.int m, .ref t]) H by
      obtain ⟨t, h1, h2⟩ := h
      exact ⟨t, h1.nox, h2⟩
    refine ⟨_, (pss_cons (ps_set (i := 2) sc__law_made_right.nd rfl (Or.inl rfl) (pc c_law_due rm (by decide) gd rfl (pa_cons (pv 1) (pa_cons (pv 0) pa_nil))))
    (pss_cons (ps_set (i := 3) sc__law_made_right.nd rfl (Or.inl rfl) (pe_lam (k := 9) (t := fun E => tMake C (spBI C ce) [] E (tCons (tOp (rIxT K) (tVar 1) (tC (.int 0))) (tCons (tOp (rIxT K) (tVar 1) (tC (.int 1))) (tCons (tOp (rIxT K) (tVar 1) (tC (.int 2))) (tCons (tOp (rIxT K) (tVar 1) (tC (.int 3))) tNil))))) (T := TT3 P1 P2 P3) DH (heard_gives (k := 7) ER FR hsR hfR hbR rm gd) rfl TBt rfl in1 hu1 rm gd ⟨lamS_by (sc := defScope s__law_made_right) (by decide +kernel), fun _ _ _ _ _ => rfl⟩ rfl (fun A outer s H E f c' rm3 gd3 => (pe_gmake MK FIN (rm3.mono (by decide)) gd3 rfl T.g_Blend b5 .nil pass_lam (pa_cons (pe_ix ix_tup (pv 1) pe_int (fun _ _ => rfl)) (pa_cons (pe_ix ix_tup (pv 1) pe_int (fun _ _ => rfl)) (pa_cons (pe_ix ix_tup (pv 1) pe_int (fun _ _ => rfl)) (pa_cons (pe_ix ix_tup (pv 1) pe_int (fun _ _ => rfl)) pa_nil))))))))
    (pss_one (ps_ret (pe_ifExp (pt_cmpR op_ne (pv 2) pe_str (nomark _)) (pe_cmpR op_eq (pv 3) (pv 2) (nomark _)) (pe_cmpR op_eq (pe_slice sl_str (pv 3) po_none (po_some pe_int)) pe_str (nomark _))))))), ?_⟩
    walk_at "go"
    refine ⟨t, m, a, b, c, e, da, db, dc, de, rfl, ht, oa, ob, oc, oe, ka, kb, kc, ke, hm, ham, fun i v d H1 hf ov ok s1 => ?_, fun H1 hf s1 => ?_⟩
    · obtain ⟨hi, hv⟩ := first_of hf
      walk_at "go"
      refine ⟨tabs.ext s1, fun H2 e2 t2 => ?_⟩
      have e12 : ExtN H H2 := (ExtN.of s1).trans e2
      refine fun E' Q' hE hT => ?_
      have ht2 : H2 t = _ := e12 _ _ ht nofun
      walk_at "go"
      refine make fun x dx H3 nx hx s3 => ?_
      have e3 : ExtN H H3 := e12.trans (ExtN.of s3)
      refine ⟨x, dx, a, b, c, e, da, db, dc, de, rfl, hx, oa.ext e3, ob.ext e3, oc.ext e3, oe.ext e3, fun i' v' hf' => ?_, fun w' s' k' f' hn => ?_⟩
      · rw [hf] at hf'
        obtain ⟨rfl, rfl⟩ : i = i' ∧ v = v' := by
          injection hf' with z
          injection z with z1 z2
          exact ⟨z1, z2⟩
        refine heard_err (Q := _) hi (ov.ext e3) ok s3 (fun H4 s4 => ?_) hE
        walk_at "go"
        rw [decide_eq_false (fun z => err_ne _ _ (V.str.inj z))]
        refine iteT ?_
        walk_at "go"
        rw [decide_eq_true rfl]
        exact q H4 (e12.trans (ExtN.of s4)) (t2.ext s4)
      · rw [hf] at hn
        cases hn
    · walk_at "go"
      refine ⟨tabs.ext s1, fun H2 e2 t2 => ?_⟩
      have e12 : ExtN H H2 := (ExtN.of s1).trans e2
      refine fun E' Q' hE hT => ?_
      have ht2 : H2 t = _ := e12 _ _ ht nofun
      walk_at "go"
      refine make fun x dx H3 nx hx s3 => ?_
      have e3 : ExtN H H3 := e12.trans (ExtN.of s3)
      refine ⟨x, dx, a, b, c, e, da, db, dc, de, rfl, hx, oa.ext e3, ob.ext e3, oc.ext e3, oe.ext e3, fun i' v' hf' => ?_, fun w' s' k' f' hn ea eb ec ee ok' H4 h4 e4 => ?_⟩
      · rw [hf] at hf'
        cases hf'
      · refine ⟨rfl, hT _ _ (.inl ⟨x, _, rfl, h4, norm_ok ok', fun H5 s5 => ?_⟩)⟩
        walk_at "go"
        have s24 : Same H2 H4 := fun b o e => e4 b o (s3 b o e) (ne_of_none e nx)
        have s25 := s24.trans s5
        rw [decide_eq_true rfl]
        refine iteF ?_
        walk_at "go"
        unfold tSl
        walk_at "go"
        refine ⟨14, rfl, _, rfl, Nat.le_trans (told_len (norm_ok ok')) (by decide), ?_⟩
        walk_at "go"
        rw [cut14, decide_eq_true rfl]
        exact q H5 (e12.trans (ExtN.of s25)) (t2.ext s25)
end
end Law

set_option Elab.async false
set_option linter.all false
set_option maxRecDepth 100000
set_option maxHeartbeats 4000000
namespace Law
open PySem PySem.Spec PySem.Calls PyProof.Rows L2 KG LamX
local macro_rules | `(tactic| walk_at "1") => `(tactic| first
  | (with_reducible refine w_var rfl ?_) | (with_reducible refine w_c ?_) | (with_reducible refine w_seq ?_) | (with_reducible refine w_asg ?_) | (with_reducible refine w_gname ?_) | (with_reducible refine w_op ?_) | (with_reducible refine w_un ?_)
  | (with_reducible refine w_add ?_) | (with_reducible refine w_sub ?_) | ((with_reducible refine' w_mod ?mo ?_); (case mo => first | assumption | decide | omega)) | (with_reducible refine w_and ?_) | (with_reducible refine w_or ?_) | (with_reducible refine w_xor ?_)
  | (with_reducible refine w_gt ?_) | (with_reducible refine w_lt ?_) | (with_reducible refine w_ge ?_) | (with_reducible refine w_le ?_) | ((with_reducible refine' w_eq ?sc ?_); (case sc => rfl)) | ((with_reducible refine' w_ne ?sc ?_); (case sc => rfl))
  | (with_reducible refine w_ret ?_) | (with_reducible refine w_next ?_) | (with_reducible refine w_ifs ?_) | (with_reducible refine w_ifx ?_) | (with_reducible refine w_test ?_) | (with_reducible refine w_tB ?_) | (with_reducible refine w_bl ?_)
  | ((with_reducible refine' w_ixL ?ixh ?ixa ?_); (case ixh => first | exact SqL.of (by assumption)); (case ixa => first | rfl | skip)) | ((with_reducible refine' w_ixT ?ixh ?ixa ?_); (case ixh => first | exact SqT.of (by assumption)); (case ixa => first | rfl | skip))
  | ((with_reducible refine' w_fld ?_)) | ((with_reducible refine' fld ?fh ?fc ?fn ?fl ?_); (case fh => assumption); (case fc => assumption); (case fn => assumption); (case fl => rfl)) | (with_reducible refine w_sfld ?_)
  | (with_reducible refine Or.inl ⟨_, rfl, ?_⟩) | (with_reducible refine w_gsub ?_) | (with_reducible refine w_andV ?_) | (with_reducible refine w_orV ?_)
  | (with_reducible refine w_nil ?_) | (with_reducible refine w_cons ?_) | (with_reducible refine w_tup ?_) | (with_reducible refine w_lst ?_) | (with_reducible refine w_and2 ?_) | (with_reducible refine w_or2 ?_) | (with_reducible refine w_not ?_) | (with_reducible refine w_cb ?_) | (with_reducible refine w_call ?_) | (with_reducible refine w_par ?_) | (with_reducible refine w_pnil ?_) | (with_reducible refine w_pcons ?_) | (with_reducible refine w_dput ?_) | (with_reducible refine w_dget ?_) | (with_reducible refine w_for ?_) | (with_reducible refine w_itup ?_) | (with_reducible refine w_ilist ?_) | (with_reducible refine w_irng ?_) | (with_reducible refine w_meth ?_) | (with_reducible refine w_make ?_) | (with_reducible refine w_makeK ?_) | (with_reducible refine w_methK ?_) | ((with_reducible refine' mth ?mh ?ml ?_); (case mh => assumption); (case ml => rfl)) | (with_reducible refine w_drop ?_))
local macro_rules | `(tactic| walk_at "go") => `(tactic| ((repeat (walk_at "1")); try dsimp only))
local macro_rules | `(tactic| walk_at "1") => `(tactic| first
  | (with_reducible refine w_notV ?_) | (with_reducible refine w_callK ?_) | (with_reducible refine w_lc ?_) | (with_reducible refine w_chain ?_) | (with_reducible refine w_neg ?_) | ((with_reducible refine' w_shr ?mo ?_); (case mo => first | assumption | omega)))
/-- the text of a heard call -/
structure Good (fits : Bool) (tx : Str) (n : Int) (pre z : Str) : Prop where
  l : z.length ≤ sizeLine
  y : fits = true → cutS z none (some n) = pre
  n : fits = false → z = tx
theorem heardG {C : Addr} {ce : Nat → Addr} {tl : XK → Hp → VK → Prop} {H : Hp} {Q : VK} {fits : Bool} {y : V} {d : PyData} {n : Int} {pre : Str} (i : Nat) (hi : i = 2 ∨ i = 3) (oy : Ov H y d) (ok : OkD d) (hB : ∀ bq : Bq, cutS (listText [reprText "told", rp bq]) none (some n) = pre)
    (K : ∀ z G, Same H G → Good fits (PyData.list [.str (ceT i), d]).shown n pre z → Q (.str z) G)
    (h : ∀ (E' : XK) (Q' : VK), (fits = true → ∀ r bq H', Same H H' → BlAt C H' r bq → bq.ok = true → Q' (.ref r) H') → (fits = true → ∀ v : Int, v.natAbs < 10 ^ 60 → (∀ t, cutS (listText [reprText "told", t]) none (some n) = pre) → Q' (.int v) H) → (fits = false → tErrV E' H (ce i) y) → tl E' H Q') : THeard C ce tl H Q := by
  refine fun E' Q' hE hT => h E' Q' (fun hf r bq H' s hb hok => hT _ _ (.inl ⟨r, bq, rfl, hb, hok, fun G sG => K _ G (s.trans sG) ⟨Nat.le_trans (told_len hok) (by decide), fun _ => hB bq, fun z => (by rw [hf] at z; cases z)⟩⟩)) (fun hf v hv hc => ?_) (fun hf => heard_err (G := H) (by rcases hi with rfl | rfl <;> simp) oy ok (Same.refl _) (fun G sG => K _ G sG ⟨?_, fun z => (by rw [hf] at z; cases z), fun _ => rfl⟩) hE)
  · have lg := big_log hv
    have li : (PyData.int v).shown.length ≤ 1921 := by
      rw [PyData.shown_int]
      exact PyProof.Rows.int_text_len_1921 lg
    have lt : (listText [reprText "told", (PyData.int v).shown]).length ≤ sizeLine := by
      have l := listText_len_le [reprText "told", (PyData.int v).shown]
      have t : (reprText "told").length = 6 := by decide +kernel
      simp only [List.map_cons, List.map_nil, List.sum_cons, List.sum_nil, List.length_cons, List.length_nil, t] at l
      exact Nat.le_trans (show _ ≤ 3000 by omega) (by decide)
    refine hT _ _ (.inr ⟨.int v, fun _ _ => .int v, by simp [PyData.hasDict], by simp [PyData.showable, PyData.showableAll, lg], by simp [PyData.depth, PyData.depthAll], by rw [told_int]; exact lt, fun G sG => K _ G sG ⟨by rw [told_int]; exact lt, fun _ => by rw [told_int]; exact hc _, fun z => by rw [hf] at z; cases z⟩⟩)
  · exact Nat.le_trans (ok.s _ (by rcases hi with rfl | rfl <;> simp [isWn, ceT])).2.2 (by decide)
theorem tabs_list {T : List (Addr × Str)} {H H' : Hp} {q : Addr} {xs : List V} (hq : H q = some (.lst xs)) (e : ∀ b, b ≠ q → H' b = H b) (t : Tabs T H) : Tabs T H' := fun pr hp => by
  obtain ⟨ps, h1, h2, h3⟩ := t pr hp
  refine ⟨ps, (e _ fun z => ?_).trans h1, h2, fun pos cv hc => ?_⟩
  · rw [z, hq] at h1
    cases h1
  · obtain ⟨c, e1, e2⟩ := h3 pos cv hc
    refine ⟨c, e1, (e _ fun z => ?_).trans e2⟩
    rw [z, hq] at e2
    unfold CodeO at e2
    cases e2
theorem cst_first {m : Int} {y : V} {i : Nat} {v : V} (hm : wd m = true) (h : firstX (.int m) (.int 0) (.int 0) y = some (i, v)) : i = 2 ∧ v = y ∧ isW m y = false := by
  obtain ⟨f0, _, _, f3⟩ := wd_fw hm
  have hs : isSh (-m) m (.int 0) = true := isSh_mk (by omega) (by omega)
  have hk : isW m (.int 0) = true := isW_mk (Int.le_refl _) f0
  cases hy : isW m y with
  | true =>
    rw [first4 hm hs (.inr hk) hy] at h
    cases h
  | false =>
    rw [first3 hm hs (.inr hk) hy] at h
    cases h
    exact ⟨rfl, rfl, rfl⟩
theorem cst_ok {m v : Int} (hm : wd m = true) (v0 : 0 ≤ v) (v1 : v ≤ fw m) : (norm m 0 0 v).ok = true := by
  obtain ⟨f0, _, _, f3⟩ := wd_fw hm
  exact norm_ok (okN_mk hm (by omega) (by omega) ⟨Int.le_refl _, f0⟩ ⟨v0, v1⟩)
theorem calB_small {b : Bq} {v : Int} (h : b.ok = true) (v0 : 0 ≤ v) (v1 : v ≤ fw b.w) : (calB b v).natAbs < 10 ^ 60 := by
  obtain ⟨b1, b2, b3, b4, b6, b7, b8⟩ := okN_of h
  obtain ⟨f0, f1, _, _⟩ := wd_fw b1
  obtain ⟨n, rfl, hn⟩ := fl_nat b1 v0 v1
  unfold calB
  rw [shf_nat hn]
  have z := and_w b1 (Int.natCast_nonneg (gN b.w.toNat b.s n)) ((fw_pow b1).mpr (gN_lt hn)) b4 b6
  have z2 := xor_w b1 z.1 z.2 b7 b8
  omega
theorem and_chain {y : V} {d : PyData} {H : Hp} {σ : L2.St} {R : VK} {E0 : XK} {top : TE} (n : Int) (oy : Ov H y d) (hy : σ[1]? = some (some y)) (ht : ∀ Q : VK, (∀ H', Same H H' → Q (.int n) H') → top σ H Q) (q : ∀ H', Same H H' → R (.bl (isSh 0 n y)) H') :
    spIsInt ([y] ++ []) H (fun x H1 => ∃ c, x = .bl c ∧ if c = true then tChain (rI0 fun i j => V.bl (decide (i ≤ j))) (rI0 fun i j => V.bl (decide (i ≤ j))) (tC (.int 0)) (tVar 1) top σ H1 R else R (.bl false) H1) E0 := by
  refine ⟨y, d, rfl, oy, _, rfl, ?_⟩
  cases y with
  | int v =>
    refine iteT ?_
    walk_at "go"
    refine w_var hy ?_
    walk_at "go"
    cases h1 : decide (0 ≤ v) with
    | true =>
      refine iteT ?_
      refine ht _ fun H' s => ?_
      have z := q H' s
      rw [show isSh 0 n (.int v) = decide (v ≤ n) by show (decide (0 ≤ v) && decide (v ≤ n)) = _; rw [h1]; rfl] at z
      exact ⟨v, n, rfl, rfl, z⟩
    | false =>
      refine iteF ?_
      have z := q H (Same.refl _)
      rw [show isSh 0 n (.int v) = false by show (decide (0 ≤ v) && _) = _; rw [h1]; rfl] at z
      exact z
  | _ => exact iteF (q H (Same.refl _))
def spOps (C P1 P2 P3 : Addr) : Sp := fun vs H Q _ => ∃ (x : Addr) (y : V) (b : Bq) (d : PyData) (g : Nat → Nat), vs = [.ref x, y] ∧ BlAt C H x b ∧ wd b.w = true ∧ Rep b.w b g ∧ Ov H y d ∧ OkD d ∧ Tabs (TT3 P1 P2 P3) H ∧ ∀ H', ExtN H H' → Tabs (TT3 P1 P2 P3) H' → Q (.bl true) H'
section
variable {P : Program} {w : World} {K : PySem.W.Frag} {mg : Str → Option Value} {base : Heap} {C aL aP : Addr} {tl : Int → Addr}
theorem ok_ops {fl cl0 P1 P2 P3 BE fT fR aA aO aX rA_ rO_ rX_ aL_ aS_ fC gC pc1 : Addr} {ce : Nat → Addr} {oc kV doc pm ct mc : Value} {an od : Option Addr} {osl : Array (Option Value)} {fdR fA fO fX gA_ gO_ gX_ fL fS fCl fdC : FuncData} (h1 : P1 ≠ P2) (h3 : P2 ≠ P3)
    (lk : K.lookup fl = some ⟨oc, od, .func (PySem.W.fnOf "_law_operations_right" "_law_operations_right" (defArgs s__law_operations_right) (defBody s__law_operations_right) (defScope s__law_operations_right) .none kV doc pm an (.ref cl0) ct), osl⟩) (code : PySem.W.codeIn K (.ref cl0) "_law_operations_right" = true)
    (TBt : TabB base mg cl0 P2) (T : T1 K w mg C aL aP tl) (B : B1 mg) (ER : Er K mg BE ce) (DH : DefAt K mg "_law_heard" s__law_heard ["_law_ask"]) (c_law_whole : Cal P w K mg base 1 "_law_whole" spIsInt)
    (FR : FnOk P w K mg base CX0 1 fR fdR ["self"] (spRp C)) (hsR : PySem.W.findIn K (.ref C) "__repr__" = some (some (.ref fR))) (hfR : PySem.W.isFn K (.ref fR) = true) (hbR : Binds K fdR ["self"] [])
    (oA : OpD K C aA .BitAnd) (FA : Gd P w K mg base (L2.CX P w) 6 aA fA ["self", "other"] (spW2 C (ce 2) gAnd)) (bA : Binds K fA ["self", "other"] [])
    (oO : OpD K C aO .BitOr) (FO : Gd P w K mg base (L2.CX P w) 6 aO fO ["self", "other"] (spW2 C (ce 2) gOr)) (bO : Binds K fO ["self", "other"] [])
    (oX : OpD K C aX .BitXor) (FX : Gd P w K mg base (L2.CX P w) 6 aX fX ["self", "other"] (spW2 C (ce 2) gXor)) (bX : Binds K fX ["self", "other"] [])
    (kA : BackD K C aA rA_ .BitAnd) (RA : Gd P w K mg base (L2.CX P w) 7 rA_ gA_ ["self", "other"] (spW2 C (ce 2) gAnd)) (rA : Binds K gA_ ["self", "other"] [])
    (kO : BackD K C aO rO_ .BitOr) (RO : Gd P w K mg base (L2.CX P w) 7 rO_ gO_ ["self", "other"] (spW2 C (ce 2) gOr)) (rO : Binds K gO_ ["self", "other"] [])
    (kX : BackD K C aX rX_ .BitXor) (RX : Gd P w K mg base (L2.CX P w) 7 rX_ gX_ ["self", "other"] (spW2 C (ce 2) gXor)) (rX : Binds K gX_ ["self", "other"] [])
    (oL : OpD K C aL_ .LShift) (FL : Gd P w K mg base (L2.CX P w) 7 aL_ fL ["self", "other"] (spMv C (ce 3) 1)) (bL : Binds K fL ["self", "other"] [])
    (oS : OpD K C aS_ .RShift) (FS : Gd P w K mg base (L2.CX P w) 7 aS_ fS ["self", "other"] (spMv C (ce 3) (-1))) (bS : Binds K fS ["self", "other"] [])
    (oC1 : PySem.W.findIn K (.ref C) "__call__" = some (some (.ref fC))) (oC2 : PySem.W.isFn K (.ref fC) = true) (oC3 : PySem.W.fnIn K fC = true) (FCA : Gd P w K mg base (L2.CX P w) 4 fC fCl ["self", "value"] (spCal C (ce 2))) (bCA : Binds K fCl ["self", "value"] [])
    (CR : ClX.CRead K C mc) (CM : ClX.CMet K C mc "constant" pc1 gC) (FCs : Gd P w K mg base (L2.CX P w) 6 gC fdC ["cls", "width", "value"] (spCst C ce)) (bCs : Binds K fdC ["cls", "width", "value"] []) :
    Gd P w K mg base CX0 12 fl (PySem.W.fnOf "_law_operations_right" "_law_operations_right" (defArgs s__law_operations_right) (defBody s__law_operations_right) (defScope s__law_operations_right) .none kV doc pm an (.ref cl0) ct) ["_law_blend", "_law_thing"] (spOps C P1 P2 P3) := by
  have hu2 := tt2 (P1 := P1) (P2 := P2) (P3 := P3) h1 h3
  refine gd_of lk code sc__law_operations_right (fun vs H Q E h => ?_) (fun A outer s H vs Q E rm gd h => ?_)
  · obtain ⟨x, y, b, d, g, rfl, _⟩ := h
    rfl
  · obtain ⟨x, y, b, d, g, rfl, hb, hw, rep, oy, ok, tabs, q⟩ := h
    suffices h : ∃ t', PSs (cxOf CX0 P w K mg base ["_law_blend", "_law_thing", "_law_fits", "_law_heard_here", "_law_one", "_law_is_step"] "_law_operations_right" (defScope s__law_operations_right) fl (.ref cl0) A outer s H E).nox (defBody s__law_operations_right) t' ∧ t' { nx := fun _ H' => Q .non H', rt := Q } (start ["_law_blend", "_law_thing", "_law_fits", "_law_heard_here", "_law_one", "_law_is_step"] [.ref x, y]) H by
      obtain ⟨t, h1, h2⟩ := h
      exact ⟨t, h1.nox, h2⟩
    have hu := hu_of rm
    obtain ⟨dx, hx⟩ := at_fld hb
    have cl := T.cl
    have nW := T.nW
    obtain ⟨Ty, ty⟩ := oy.td
    have bok : b.ok = true := rep.ok hw
    refine ⟨_, (pss_cons (ps_set (i := 2) sc__law_operations_right.nd rfl (Or.inr rfl) (pe_and (pc c_law_whole rm (by decide) gd rfl (pa_cons (pv 1) pa_nil)) (pe_one (pe_chain op_le op_le pe_int (pv 1) (pe_dget hu (pe_disp (pps_cons pe_int pe_int (pps_cons pe_int pe_int (pps_cons pe_int pe_int pps_nil))) (by rfl) (by rfl) (fun z => by cases z) (by decide)) (pe_fld (pv 0) rfl) (fun _ _ => rfl))))))
    (pss_cons (ps_set (i := 3) sc__law_operations_right.nd rfl (Or.inl rfl) (pe_lst (pa_cons (pe_lam (k := 9) (t := fun E => tOp (rOwnD C (spW2 C (ce 2) gAnd) E) (tVar 0) (tVar 1)) (T := TT3 P1 P2 P3) DH (heard_gives (k := 7) ER FR hsR hfR hbR rm gd) rfl TBt rfl in2 hu2 rm gd ⟨lamS_by (sc := defScope s__law_operations_right) (by decide +kernel), fun _ _ _ _ _ => rfl⟩ rfl (fun A outer s H E f c' rm3 gd3 => (pe_op (op_ownD oA FA (rm3.mono (by decide)) gd3 bA pass_lam) (pv 0) (pv 1)))) pa_nil)))
    (pss_cons (ps_expr (pe_bm PySem.F.plainAttrs_list PySem.F.slot_list_append PySem.F.type_list_append mt_append (pv 3) (pa_cons (pe_lam (k := 9) (t := fun E => tOp (rOwnD C (spW2 C (ce 2) gOr) E) (tVar 0) (tVar 1)) (T := TT3 P1 P2 P3) DH (heard_gives (k := 7) ER FR hsR hfR hbR rm gd) rfl TBt rfl in2 hu2 rm gd ⟨lamS_by (sc := defScope s__law_operations_right) (by decide +kernel), fun _ _ _ _ _ => rfl⟩ rfl (fun A outer s H E f c' rm3 gd3 => (pe_op (op_ownD oO FO (rm3.mono (by decide)) gd3 bO pass_lam) (pv 0) (pv 1)))) pa_nil)))
    (pss_cons (ps_expr (pe_bm PySem.F.plainAttrs_list PySem.F.slot_list_append PySem.F.type_list_append mt_append (pv 3) (pa_cons (pe_lam (k := 9) (t := fun E => tOp (rOwnD C (spW2 C (ce 2) gXor) E) (tVar 0) (tVar 1)) (T := TT3 P1 P2 P3) DH (heard_gives (k := 7) ER FR hsR hfR hbR rm gd) rfl TBt rfl in2 hu2 rm gd ⟨lamS_by (sc := defScope s__law_operations_right) (by decide +kernel), fun _ _ _ _ _ => rfl⟩ rfl (fun A outer s H E f c' rm3 gd3 => (pe_op (op_ownD oX FX (rm3.mono (by decide)) gd3 bX pass_lam) (pv 0) (pv 1)))) pa_nil)))
    (pss_cons (ps_expr (pe_bm PySem.F.plainAttrs_list PySem.F.slot_list_append PySem.F.type_list_append mt_append (pv 3) (pa_cons (pe_lam (k := 9) (t := fun E => tOwnC C (spCal C (ce 2)) E 0 (tCons (tVar 1) tNil)) (T := TT3 P1 P2 P3) DH (heard_gives (k := 7) ER FR hsR hfR hbR rm gd) rfl TBt rfl in2 hu2 rm gd ⟨lamS_by (sc := defScope s__law_operations_right) (by decide +kernel), fun _ _ _ _ _ => rfl⟩ rfl (fun A outer s H E f c' rm3 gd3 => (pe_ownC (n := 0) oC1 oC2 oC3 FCA (rm3.mono (by decide)) gd3 bCA pass_lam (pv 0) (pa_cons (pv 1) pa_nil)))) pa_nil)))
    (pss_cons (ps_expr (pe_bm PySem.F.plainAttrs_list PySem.F.slot_list_append PySem.F.type_list_append mt_append (pv 3) (pa_cons (pe_lam (k := 9) (t := fun E => ClX.tCMeth C (spCst C ce) E (tC (.ref C)) (tCons (tFld K (tVar 0) "width") (tCons (tVar 1) tNil))) (T := TT3 P1 P2 P3) DH (heard_gives (k := 7) ER FR hsR hfR hbR rm gd) rfl TBt rfl in2 hu2 rm gd ⟨lamS_by (sc := defScope s__law_operations_right) (by decide +kernel), fun _ _ _ _ _ => rfl⟩ rfl (fun A outer s H E f c' rm3 gd3 => (pe_gcm (pe_glob (v := .ref C) rfl T.g_Blend rfl) CR CM FCs (rm3.mono (by decide)) gd3 bCs pass_lam (pa_cons (pe_fld (pv 0) rfl) (pa_cons (pv 1) pa_nil))))) pa_nil)))
    (pss_cons (ps_expr (pe_bm PySem.F.plainAttrs_list PySem.F.slot_list_append PySem.F.type_list_append mt_append (pv 3) (pa_cons (pe_lam (k := 9) (t := fun E => tOp (rBackD C (spW2 C (ce 2) gAnd) E) (tVar 1) (tVar 0)) (T := TT3 P1 P2 P3) DH (heard_gives (k := 7) ER FR hsR hfR hbR rm gd) rfl TBt rfl in2 hu2 rm gd ⟨lamS_by (sc := defScope s__law_operations_right) (by decide +kernel), fun _ _ _ _ _ => rfl⟩ rfl (fun A outer s H E f c' rm3 gd3 => (pe_op (op_backD kA RA (rm3.mono (by decide)) gd3 rA pass_lam) (pv 1) (pv 0)))) pa_nil)))
    (pss_cons (ps_expr (pe_bm PySem.F.plainAttrs_list PySem.F.slot_list_append PySem.F.type_list_append mt_append (pv 3) (pa_cons (pe_lam (k := 9) (t := fun E => tOp (rBackD C (spW2 C (ce 2) gOr) E) (tVar 1) (tVar 0)) (T := TT3 P1 P2 P3) DH (heard_gives (k := 7) ER FR hsR hfR hbR rm gd) rfl TBt rfl in2 hu2 rm gd ⟨lamS_by (sc := defScope s__law_operations_right) (by decide +kernel), fun _ _ _ _ _ => rfl⟩ rfl (fun A outer s H E f c' rm3 gd3 => (pe_op (op_backD kO RO (rm3.mono (by decide)) gd3 rO pass_lam) (pv 1) (pv 0)))) pa_nil)))
    (pss_cons (ps_expr (pe_bm PySem.F.plainAttrs_list PySem.F.slot_list_append PySem.F.type_list_append mt_append (pv 3) (pa_cons (pe_lam (k := 9) (t := fun E => tOp (rBackD C (spW2 C (ce 2) gXor) E) (tVar 1) (tVar 0)) (T := TT3 P1 P2 P3) DH (heard_gives (k := 7) ER FR hsR hfR hbR rm gd) rfl TBt rfl in2 hu2 rm gd ⟨lamS_by (sc := defScope s__law_operations_right) (by decide +kernel), fun _ _ _ _ _ => rfl⟩ rfl (fun A outer s H E f c' rm3 gd3 => (pe_op (op_backD kX RX (rm3.mono (by decide)) gd3 rX pass_lam) (pv 1) (pv 0)))) pa_nil)))
    (pss_cons (ps_if (pt_cmpR (op_neD rm.units) (pe_lc (own := [("_law_one", 4)]) (g := (gName 4)) (by rfl) sc__law_operations_right.nd (pi_list (pv 3)) (blkOk_by (own := [("_law_one", 4)]) (N := ["_law_blend", "_law_thing", "_law_fits", "_law_heard_here", "_law_one", "_law_is_step"]) (sc := defScope s__law_operations_right) (by decide +kernel)) (fun _ _ _ _ _ => (pg_name (i := 4) sc__law_operations_right.nd rfl (Or.inl rfl))) (fun _ _ _ _ _ => (pts_one (pt_cmpR op_ne (pe_cmpR op_eq (pe_slice sl_str (pv 4) po_none (po_some pe_int)) pe_str (nomark _)) (pv 2) (nomark _)))) (fun _ _ _ _ _ => pe_int)) (pe_lst pa_nil) (nomark _))
      (pss_one (ps_ret pe_bl))
      pss_nil)
    (pss_mid (ps_if (PW.pt (pw_and (pt_not (pt_val (pv 2))) (pw_and1 (pt_cmpR (op_neD rm.units) (pv 3) (pe_op op_rep (pe_lst (pa_cons (pe_callB (call_reprA rm gd) (by rfl) B.g_repr (by decide +kernel) (pa_cons (pe_lstB (pa_cons pe_str (pa_cons (pv 1) pa_nil))) pa_nil)) pa_nil)) (pe_callB call_len_seq (by rfl) B.g_len (by decide +kernel) (pa_cons (pv 3) pa_nil))) (nomark _)))))
      (pss_one (ps_ret pe_bl))
      pss_nil)
    (pss_cons (ps_set (i := 5) sc__law_operations_right.nd rfl (Or.inl rfl) (pe_and (pc c_law_whole rm (by decide) gd rfl (pa_cons (pv 1) pa_nil)) (pe_one (pe_chain op_le op_le pe_int (pv 1) (pe_fld (pv 0) rfl)))))
    (pss_cons (ps_set (i := 3) sc__law_operations_right.nd rfl (Or.inl rfl) (pe_lst (pa_cons (pe_lam (k := 9) (t := fun E => tOp (rOwnD C (spMv C (ce 3) 1) E) (tVar 0) (tVar 1)) (T := TT3 P1 P2 P3) DH (heard_gives (k := 7) ER FR hsR hfR hbR rm gd) rfl TBt rfl in2 hu2 rm gd ⟨lamS_by (sc := defScope s__law_operations_right) (by decide +kernel), fun _ _ _ _ _ => rfl⟩ rfl (fun A outer s H E f c' rm3 gd3 => (pe_op (op_ownD oL FL (rm3.mono (by decide)) gd3 bL pass_lam) (pv 0) (pv 1)))) pa_nil)))
    (pss_cons (ps_expr (pe_bm PySem.F.plainAttrs_list PySem.F.slot_list_append PySem.F.type_list_append mt_append (pv 3) (pa_cons (pe_lam (k := 9) (t := fun E => tOp (rOwnD C (spMv C (ce 3) (-1)) E) (tVar 0) (tVar 1)) (T := TT3 P1 P2 P3) DH (heard_gives (k := 7) ER FR hsR hfR hbR rm gd) rfl TBt rfl in2 hu2 rm gd ⟨lamS_by (sc := defScope s__law_operations_right) (by decide +kernel), fun _ _ _ _ _ => rfl⟩ rfl (fun A outer s H E f c' rm3 gd3 => (pe_op (op_ownD oS FS (rm3.mono (by decide)) gd3 bS pass_lam) (pv 0) (pv 1)))) pa_nil)))
    (pss_cons (ps_if (pt_val (pv 5))
      (pss_one (ps_ret (pe_cmpR (op_eqD rm.units) (pe_lc (own := [("_law_one", 4)]) (g := (gName 4)) (by rfl) sc__law_operations_right.nd (pi_list (pv 3)) (blkOk_by (own := [("_law_one", 4)]) (N := ["_law_blend", "_law_thing", "_law_fits", "_law_heard_here", "_law_one", "_law_is_step"]) (sc := defScope s__law_operations_right) (by decide +kernel)) (fun _ _ _ _ _ => (pg_name (i := 4) sc__law_operations_right.nd rfl (Or.inl rfl))) (fun _ _ _ _ _ => pts_nil) (fun _ _ _ _ _ => (pe_slice sl_str (pv 4) po_none (po_some pe_int)))) (pe_op op_rep (pe_lst (pa_cons pe_str pa_nil)) pe_int) (nomark _))))
      pss_nil)
    (pss_one (ps_ret (pe_cmpR (op_eqD rm.units) (pv 3) (pe_op op_rep (pe_lst (pa_cons (pe_callB (call_reprA rm gd) (by rfl) B.g_repr (by decide +kernel) (pa_cons (pe_lstB (pa_cons pe_str (pa_cons (pv 1) pa_nil))) pa_nil)) pa_nil)) pe_int) (nomark _))))))))))))))))))), ?_⟩
    walk_at "go"
    generalize hfit : isW b.w y = fits
    generalize htx : (PyData.list [.str "word", d]).shown = tx
    have wN : ∀ v : Int, 0 ≤ v → v ≤ fw b.w → ∃ m : Nat, v = (m : Int) ∧ m < 2 ^ b.w.toNat := fun v v0 v1 => fl_nat hw v0 v1
    have rAnd : ∀ v : Int, 0 ≤ v → v ≤ fw b.w → (gAnd b v).ok = true := fun v v0 v1 => by
      obtain ⟨m, rfl, hm⟩ := wN v v0 v1
      exact (rep_and hw hm rep).ok hw
    have rOr : ∀ v : Int, 0 ≤ v → v ≤ fw b.w → (gOr b v).ok = true := fun v v0 v1 => by
      obtain ⟨m, rfl, hm⟩ := wN v v0 v1
      exact (rep_or hw hm rep).ok hw
    have rXor : ∀ v : Int, 0 ≤ v → v ≤ fw b.w → (gXor b v).ok = true := fun v v0 v1 => by
      obtain ⟨m, rfl, hm⟩ := wN v v0 v1
      exact (rep_xor hw hm rep).ok hw
    have yes : ∀ v : Int, y = .int v → 0 ≤ v → v ≤ fw b.w → fits = true := fun v ev v0 v1 => by
      rw [← hfit, ev]
      exact isW_mk v0 v1
    refine and_chain (n := fw b.w) oy rfl (fun Q' hq => ?_) fun H1 s1 => ?_
    · refine w_disp fun d1 H1 n1 h1 s1 => ?_
      walk_at "go"
      refine dall [(.inl 8, .int 255), (.inl 16, .int 65535), (.inl 32, .int 4294967295)] h1 rfl (by decide) rfl fun H2 h2 e2 => ?_
      have s2 : Same H H2 := fun b o e => (e2 b (ne_of_none e n1)).trans (s1 b o e)
      have hx := s2 _ _ hx
      walk_at "go"
      refine dget (v := .int (fw b.w)) (.inl b.w) h2 (valD hw) ?_
      exact hq _ s2
    rw [show isSh 0 (fw b.w) y = fits by rw [← hfit]; cases y <;> rfl]
    have hx0 := hx
    have hx1 := s1 _ _ hx
    have e1 : ExtN H H1 := ExtN.of s1
    have t1 := tabs.ext s1
    walk_at "go"
    have h1' : H1 x = _ := hx1
    refine ⟨t1, fun A1 ea1 ta1 => ?_⟩
    have ef1 : ExtN H A1 := e1.trans ea1
    refine heardG (n := 7) (pre := "['told'") (d := d) (y := y) (fits := fits) 2 (.inl rfl) (oy.ext ef1) ok (fun bq => cut7 _) (fun z1 B1 sb1 gz1 => ?_) (fun E' Q' hB hI hE => ?_)
    rotate_left
    · have hxc := ef1 _ _ hx0 nofun
      have hbc := hb.ext ef1
      have oyc := oy.ext ef1
      obtain ⟨Tc, tyc⟩ := oyc.td
      walk_at "go"
      exact w_ownD hxc tyc ⟨x, b, y, d, rfl, hbc, bok, oyc, fun v ev v0 v1 r H' nr hr s => hB (yes v ev v0 v1) r _ H' s hr (rAnd v v0 v1), fun hf => hE (hfit.symm.trans hf)⟩
    rw [show (PyData.list [.str (ceT 2), d]).shown = tx from htx] at gz1
    walk_at "go"
    refine new (show 1 ≤ sizeLine by decide) fun p G1 np1 hp1 sp1 => ?_
    have ex1 : ExtN H G1 := ef1.trans (ExtN.of (sb1.trans sp1))
    have tb1 := (ta1.ext sb1).ext sp1
    have nH : ∀ {a : Addr} {o : HO}, H a = some o → (∀ ps, o ≠ .tbl ps) → a ≠ p := fun e n => ne_of_none (sb1 _ _ (ef1 _ _ e n)) np1
    have hp1 : G1 p = some (.lst [.str z1]) := hp1
    walk_at "go"
    refine w_bm ?_
    walk_at "go"
    refine ⟨ty_list hp1, ?_⟩
    walk_at "go"
    refine ⟨tb1, fun A2 ea2 ta2 => ?_⟩
    have ef2 : ExtN H A2 := ex1.trans ea2
    refine heardG (n := 7) (pre := "['told'") (d := d) (y := y) (fits := fits) 2 (.inl rfl) (oy.ext ef2) ok (fun bq => cut7 _) (fun z2 B2 sb2 gz2 => ?_) (fun E' Q' hB hI hE => ?_)
    rotate_left
    · have hxc := ef2 _ _ hx0 nofun
      have hbc := hb.ext ef2
      have oyc := oy.ext ef2
      obtain ⟨Tc, tyc⟩ := oyc.td
      walk_at "go"
      exact w_ownD hxc tyc ⟨x, b, y, d, rfl, hbc, bok, oyc, fun v ev v0 v1 r H' nr hr s => hB (yes v ev v0 v1) r _ H' s hr (rOr v v0 v1), fun hf => hE (hfit.symm.trans hf)⟩
    rw [show (PyData.list [.str (ceT 2), d]).shown = tx from htx] at gz2
    walk_at "go"
    have hq2 := sb2 _ _ (ea2 _ _ hp1 nofun)
    refine w_app hq2 (show 1 < sizeLine by decide) rfl fun G2 hp2 cg2 => ?_
    have hp2 : G2 p = some (.lst [.str z1, .str z2]) := hp2
    have tb2 := tabs_list hq2 cg2 (ta2.ext sb2)
    have ex2 : ExtN H G2 := fun a o e n => (cg2 a (nH e n)).trans (sb2 _ _ (ef2 _ _ e n))
    walk_at "go"
    refine w_bm ?_
    walk_at "go"
    refine ⟨ty_list hp2, ?_⟩
    walk_at "go"
    refine ⟨tb2, fun A3 ea3 ta3 => ?_⟩
    have ef3 : ExtN H A3 := ex2.trans ea3
    refine heardG (n := 7) (pre := "['told'") (d := d) (y := y) (fits := fits) 2 (.inl rfl) (oy.ext ef3) ok (fun bq => cut7 _) (fun z3 B3 sb3 gz3 => ?_) (fun E' Q' hB hI hE => ?_)
    rotate_left
    · have hxc := ef3 _ _ hx0 nofun
      have hbc := hb.ext ef3
      have oyc := oy.ext ef3
      obtain ⟨Tc, tyc⟩ := oyc.td
      walk_at "go"
      exact w_ownD hxc tyc ⟨x, b, y, d, rfl, hbc, bok, oyc, fun v ev v0 v1 r H' nr hr s => hB (yes v ev v0 v1) r _ H' s hr (rXor v v0 v1), fun hf => hE (hfit.symm.trans hf)⟩
    rw [show (PyData.list [.str (ceT 2), d]).shown = tx from htx] at gz3
    walk_at "go"
    have hq3 := sb3 _ _ (ea3 _ _ hp2 nofun)
    refine w_app hq3 (show 2 < sizeLine by decide) rfl fun G3 hp3 cg3 => ?_
    have hp3 : G3 p = some (.lst [.str z1, .str z2, .str z3]) := hp3
    have tb3 := tabs_list hq3 cg3 (ta3.ext sb3)
    have ex3 : ExtN H G3 := fun a o e n => (cg3 a (nH e n)).trans (sb3 _ _ (ef3 _ _ e n))
    walk_at "go"
    refine w_bm ?_
    walk_at "go"
    refine ⟨ty_list hp3, ?_⟩
    walk_at "go"
    refine ⟨tb3, fun A4 ea4 ta4 => ?_⟩
    have ef4 : ExtN H A4 := ex3.trans ea4
    refine heardG (n := 7) (pre := "['told'") (d := d) (y := y) (fits := fits) 2 (.inl rfl) (oy.ext ef4) ok (fun bq => cut7 _) (fun z4 B4 sb4 gz4 => ?_) (fun E' Q' hB hI hE => ?_)
    rotate_left
    · have hxc := ef4 _ _ hx0 nofun
      have hbc := hb.ext ef4
      have oyc := oy.ext ef4
      obtain ⟨Tc, tyc⟩ := oyc.td
      walk_at "go"
      refine ⟨x, rfl, ?_⟩
      walk_at "go"
      exact ⟨dx, _, hxc, x, b, y, d, rfl, hbc, bok, oyc, fun v ev v0 v1 => hI (yes v ev v0 v1) _ (calB_small bok v0 v1) cut7, fun hf => hE (hfit.symm.trans hf)⟩
    rw [show (PyData.list [.str (ceT 2), d]).shown = tx from htx] at gz4
    walk_at "go"
    have hq4 := sb4 _ _ (ea4 _ _ hp3 nofun)
    refine w_app hq4 (show 3 < sizeLine by decide) rfl fun G4 hp4 cg4 => ?_
    have hp4 : G4 p = some (.lst [.str z1, .str z2, .str z3, .str z4]) := hp4
    have tb4 := tabs_list hq4 cg4 (ta4.ext sb4)
    have ex4 : ExtN H G4 := fun a o e n => (cg4 a (nH e n)).trans (sb4 _ _ (ef4 _ _ e n))
    walk_at "go"
    refine w_bm ?_
    walk_at "go"
    refine ⟨ty_list hp4, ?_⟩
    walk_at "go"
    refine ⟨tb4, fun A5 ea5 ta5 => ?_⟩
    have ef5 : ExtN H A5 := ex4.trans ea5
    refine heardG (n := 7) (pre := "['told'") (d := d) (y := y) (fits := fits) 2 (.inl rfl) (oy.ext ef5) ok (fun bq => cut7 _) (fun z5 B5 sb5 gz5 => ?_) (fun E' Q' hB hI hE => ?_)
    rotate_left
    · have hxc := ef5 _ _ hx0 nofun
      have hbc := hb.ext ef5
      have oyc := oy.ext ef5
      obtain ⟨Tc, tyc⟩ := oyc.td
      walk_at "go"
      refine ⟨rfl, ?_⟩
      walk_at "go"
      refine ⟨.int b.w, y, .int b.w, d, rfl, oI _, oyc, fun i v hf => ?_, fun n v en ev hn v0 v1 r H' nr hr s => ?_⟩
      · obtain ⟨rfl, rfl, hf⟩ := cst_first hw hf
        exact hE (hfit.symm.trans hf)
      · cases en
        exact hB (yes v ev v0 v1) r _ H' s hr (cst_ok hw v0 v1)
    rw [show (PyData.list [.str (ceT 2), d]).shown = tx from htx] at gz5
    walk_at "go"
    have hq5 := sb5 _ _ (ea5 _ _ hp4 nofun)
    refine w_app hq5 (show 4 < sizeLine by decide) rfl fun G5 hp5 cg5 => ?_
    have hp5 : G5 p = some (.lst [.str z1, .str z2, .str z3, .str z4, .str z5]) := hp5
    have tb5 := tabs_list hq5 cg5 (ta5.ext sb5)
    have ex5 : ExtN H G5 := fun a o e n => (cg5 a (nH e n)).trans (sb5 _ _ (ef5 _ _ e n))
    walk_at "go"
    refine w_bm ?_
    walk_at "go"
    refine ⟨ty_list hp5, ?_⟩
    walk_at "go"
    refine ⟨tb5, fun A6 ea6 ta6 => ?_⟩
    have ef6 : ExtN H A6 := ex5.trans ea6
    refine heardG (n := 7) (pre := "['told'") (d := d) (y := y) (fits := fits) 2 (.inl rfl) (oy.ext ef6) ok (fun bq => cut7 _) (fun z6 B6 sb6 gz6 => ?_) (fun E' Q' hB hI hE => ?_)
    rotate_left
    · have hxc := ef6 _ _ hx0 nofun
      have hbc := hb.ext ef6
      have oyc := oy.ext ef6
      obtain ⟨Tc, tyc⟩ := oyc.td
      walk_at "go"
      exact w_backD hxc tyc ⟨x, b, y, d, rfl, hbc, bok, oyc, fun v ev v0 v1 r H' nr hr s => hB (yes v ev v0 v1) r _ H' s hr (rAnd v v0 v1), fun hf => hE (hfit.symm.trans hf)⟩
    rw [show (PyData.list [.str (ceT 2), d]).shown = tx from htx] at gz6
    walk_at "go"
    have hq6 := sb6 _ _ (ea6 _ _ hp5 nofun)
    refine w_app hq6 (show 5 < sizeLine by decide) rfl fun G6 hp6 cg6 => ?_
    have hp6 : G6 p = some (.lst [.str z1, .str z2, .str z3, .str z4, .str z5, .str z6]) := hp6
    have tb6 := tabs_list hq6 cg6 (ta6.ext sb6)
    have ex6 : ExtN H G6 := fun a o e n => (cg6 a (nH e n)).trans (sb6 _ _ (ef6 _ _ e n))
    walk_at "go"
    refine w_bm ?_
    walk_at "go"
    refine ⟨ty_list hp6, ?_⟩
    walk_at "go"
    refine ⟨tb6, fun A7 ea7 ta7 => ?_⟩
    have ef7 : ExtN H A7 := ex6.trans ea7
    refine heardG (n := 7) (pre := "['told'") (d := d) (y := y) (fits := fits) 2 (.inl rfl) (oy.ext ef7) ok (fun bq => cut7 _) (fun z7 B7 sb7 gz7 => ?_) (fun E' Q' hB hI hE => ?_)
    rotate_left
    · have hxc := ef7 _ _ hx0 nofun
      have hbc := hb.ext ef7
      have oyc := oy.ext ef7
      obtain ⟨Tc, tyc⟩ := oyc.td
      walk_at "go"
      exact w_backD hxc tyc ⟨x, b, y, d, rfl, hbc, bok, oyc, fun v ev v0 v1 r H' nr hr s => hB (yes v ev v0 v1) r _ H' s hr (rOr v v0 v1), fun hf => hE (hfit.symm.trans hf)⟩
    rw [show (PyData.list [.str (ceT 2), d]).shown = tx from htx] at gz7
    walk_at "go"
    have hq7 := sb7 _ _ (ea7 _ _ hp6 nofun)
    refine w_app hq7 (show 6 < sizeLine by decide) rfl fun G7 hp7 cg7 => ?_
    have hp7 : G7 p = some (.lst [.str z1, .str z2, .str z3, .str z4, .str z5, .str z6, .str z7]) := hp7
    have tb7 := tabs_list hq7 cg7 (ta7.ext sb7)
    have ex7 : ExtN H G7 := fun a o e n => (cg7 a (nH e n)).trans (sb7 _ _ (ef7 _ _ e n))
    walk_at "go"
    refine w_bm ?_
    walk_at "go"
    refine ⟨ty_list hp7, ?_⟩
    walk_at "go"
    refine ⟨tb7, fun A8 ea8 ta8 => ?_⟩
    have ef8 : ExtN H A8 := ex7.trans ea8
    refine heardG (n := 7) (pre := "['told'") (d := d) (y := y) (fits := fits) 2 (.inl rfl) (oy.ext ef8) ok (fun bq => cut7 _) (fun z8 B8 sb8 gz8 => ?_) (fun E' Q' hB hI hE => ?_)
    rotate_left
    · have hxc := ef8 _ _ hx0 nofun
      have hbc := hb.ext ef8
      have oyc := oy.ext ef8
      obtain ⟨Tc, tyc⟩ := oyc.td
      walk_at "go"
      exact w_backD hxc tyc ⟨x, b, y, d, rfl, hbc, bok, oyc, fun v ev v0 v1 r H' nr hr s => hB (yes v ev v0 v1) r _ H' s hr (rXor v v0 v1), fun hf => hE (hfit.symm.trans hf)⟩
    rw [show (PyData.list [.str (ceT 2), d]).shown = tx from htx] at gz8
    walk_at "go"
    have hq8 := sb8 _ _ (ea8 _ _ hp7 nofun)
    refine w_app hq8 (show 7 < sizeLine by decide) rfl fun G8 hp8 cg8 => ?_
    have hp8 : G8 p = some (.lst [.str z1, .str z2, .str z3, .str z4, .str z5, .str z6, .str z7, .str z8]) := hp8
    have tb8 := tabs_list hq8 cg8 (ta8.ext sb8)
    have ex8 : ExtN H G8 := fun a o e n => (cg8 a (nH e n)).trans (sb8 _ _ (ef8 _ _ e n))
    have gz : ∀ z ∈ [z1, z2, z3, z4, z5, z6, z7, z8], Good fits tx 7 "['told'" z := fun z hz => by
      simp only [List.mem_cons, List.not_mem_nil, or_false] at hz
      rcases hz with rfl | rfl | rfl | rfl | rfl | rfl | rfl | rfl <;> assumption
    have hpz : G8 p = some (.lst ([z1, z2, z3, z4, z5, z6, z7, z8].map V.str)) := hp8
    clear cg2 cg3 cg4 cg5 cg6 cg7 cg8
    walk_at "go"
    refine over_l (SqL.of hpz) ?_
    intro D2 nD2
    have sD2 : Same G8 (upd G8 D2 (.lst [])) := fun b o e => by
      rw [upd_ne (ne_of_none e nD2)]
      exact e
    refine lc_list (K := K) (a := p) (xs := [z1, z2, z3, z4, z5, z6, z7, z8].map V.str) (fun i H' => H' D2 = some (.lst []) ∧ Same G8 H') ⟨upd_same, sD2⟩ (fun i H' _ ⟨_, s⟩ => SqL.of (s _ _ hpz)) (fun i x H' hx ⟨hD, s⟩ => ?_) (fun I1 ⟨hD2, u1⟩ => ?_)
    · rw [List.getElem?_map] at hx
      obtain ⟨z, hz, rfl⟩ := Option.map_eq_some_iff.mp hx
      have gd := gz z (List.mem_of_getElem? hz)
      walk_at "go"
      refine ⟨rfl, ?_⟩
      walk_at "go"
      unfold tSl
      walk_at "go"
      refine ⟨7, rfl, _, rfl, gd.l, ?_⟩
      walk_at "go"
      have eb : decide (V.str (cutS z none (some 7)) = V.str "['told'") = fits := by
        cases hf : fits with
        | true => rw [gd.y hf]; exact decide_eq_true rfl
        | false =>
          rw [gd.n hf, ← htx, word7]
          exact decide_eq_false fun z => absurd (V.str.inj z) (by decide +kernel)
      rw [eb]
      refine iteNS rfl ?_
      exact ⟨hD, s⟩
    walk_at "go"
    refine new (show 0 ≤ sizeLine by decide) fun q1 I2 n2 hq1 u2 => ?_
    refine ⟨.list [], .list [], .lst (SqL.of (u2 _ _ hD2)) .nil, .lst (SqL.of hq1) .nil, by decide +kernel, by decide +kernel, ?_⟩
    walk_at "go"
    rw [show (!PyData.eqv (.list []) (.list [])) = false by decide +kernel]
    refine iteF ?_
    walk_at "go"
    have s82 : Same G8 I2 := u1.trans u2
    have hp82 : I2 p = _ := s82 _ _ hp8
    have ex82 : ExtN H I2 := ex8.trans (ExtN.of s82)
    have tb82 := tb8.ext s82
    have sho : fits = false → [z1, z2, z3, z4, z5, z6, z7, z8] = [tx, tx, tx, tx, tx, tx, tx, tx] := fun hf => by
      rw [(gz z1 (by simp)).n hf, (gz z2 (by simp)).n hf, (gz z3 (by simp)).n hf, (gz z4 (by simp)).n hf, (gz z5 (by simp)).n hf, (gz z6 (by simp)).n hf, (gz z7 (by simp)).n hf, (gz z8 (by simp)).n hf]
    refine w_mid (fun σ' H' => σ' = [some (.ref x), some y, some (.bl fits), some (.ref p), none, none] ∧ Same I2 H') ?_ fun σ' I3 ⟨es, u3⟩ => ?_
    · walk_at "go"
      cases hf : fits with
      | true =>
        refine iteF ?_
        refine iteF ?_
        walk_at "go"
        exact ⟨rfl, Same.refl _⟩
      | false =>
        have zs := sho hf
        injection zs with a1 zs
        injection zs with a2 zs
        injection zs with a3 zs
        injection zs with a4 zs
        injection zs with a5 zs
        injection zs with a6 zs
        injection zs with a7 zs
        injection zs with a8 zs
        rw [a1, a2, a3, a4, a5, a6, a7, a8] at hp82
        refine iteT ?_
        walk_at "go"
        refine w_lstB ?_
        walk_at "go"
        refine newB (by show 2 ≤ sizeLine; decide) fun p5 J1 n5 m5 h5 s5 => ?_
        walk_at "go"
        refine rep_due ((oy.ext ex82)) ok (.inr (.inl rfl)) (fun J2 sj => ?_) m5 h5 s5
        rw [htx]
        walk_at "go"
        refine new (show 1 ≤ sizeLine by decide) fun p6 J3 n6 h6 s6 => ?_
        walk_at "go"
        have hp3 := s6 _ _ (sj _ _ hp82)
        refine ⟨p, _, rfl, .inl (SqL.of hp3), ?_⟩
        refine ⟨p6, ((8 : Nat) : Int), _, rfl, rfl, h6, by decide, by decide, show 1 * 8 ≤ sizeLine by decide, fun p7 n7 => ?_⟩
        have s7 : Same J3 (upd J3 p7 (.lst (List.replicate ((8 : Nat) : Int).toNat [V.str tx]).flatten)) := fun b o e => by
          rw [upd_ne (ne_of_none e n7)]
          exact e
        have h7 : upd J3 p7 (.lst (List.replicate ((8 : Nat) : Int).toNat [V.str tx]).flatten) p7 = some (.lst [.str tx, .str tx, .str tx, .str tx, .str tx, .str tx, .str tx, .str tx]) := upd_same
        have ot := ok.o "word" (.inl rfl)
        rw [htx] at ot
        have sh : SeqAt.shaped (.list [.str tx, .str tx, .str tx, .str tx, .str tx, .str tx, .str tx, .str tx]) = true := by
          simp [SeqAt.shaped, PyData.canLay0, PyData.canLayAll0, PyData.depth, PyData.depthAll, ot]
        have eq : PyData.eqv (.list [.str tx, .str tx, .str tx, .str tx, .str tx, .str tx, .str tx, .str tx]) (.list [.str tx, .str tx, .str tx, .str tx, .str tx, .str tx, .str tx, .str tx]) = true := by
          simp [PyData.eqv, PyData.eqvAll]
        refine ⟨_, _, .lst (SqL.of (s7 _ _ hp3)) (.cons (.str _) (.cons (.str _) (.cons (.str _) (.cons (.str _) (.cons (.str _) (.cons (.str _) (.cons (.str _) (.cons (.str _) .nil)))))))), .lst (SqL.of h7) (.cons (.str _) (.cons (.str _) (.cons (.str _) (.cons (.str _) (.cons (.str _) (.cons (.str _) (.cons (.str _) (.cons (.str _) .nil)))))))), sh, sh, ?_⟩
        rw [eq]
        refine ⟨_, rfl, ?_⟩
        refine iteF ?_
        walk_at "go"
        exact ⟨rfl, sj.trans (s6.trans s7)⟩
    · subst es
      have ex3 := ex82.trans (ExtN.of u3)
      have t3 := tb82.ext u3
      have hx3 := ex3 _ _ hx0 nofun
      generalize hfit2 : isSh 0 b.w y = stp
      generalize htx2 : (PyData.list [.str "shift", d]).shown = ty2
      have yes2 : ∀ v : Int, y = .int v → 0 ≤ v → v ≤ b.w → stp = true := fun v ev v0 v1 => by
        rw [← hfit2, ev]
        exact isSh_mk v0 v1
      clear hp8 hpz hp82 gz sho
      walk_at "go"
      refine and_chain (n := b.w) (oy.ext ex3) rfl (fun Q' hq => ?_) fun L1 w1 => ?_
      · walk_at "go"
        exact hq _ (Same.refl _)
      rw [hfit2]
      have ey1 := ex3.trans (ExtN.of w1)
      have ty1 := t3.ext w1
      walk_at "go"
      refine ⟨ty1, fun C1 ec1 tc1 => ?_⟩
      have eg1 : ExtN H C1 := ey1.trans ec1
      refine heardG (n := 14) (pre := "['told', Blend") (d := d) (y := y) (fits := stp) 3 (.inr rfl) (oy.ext eg1) ok (fun bq => cut14 _) (fun y1 D1 sd1 gy1 => ?_) (fun E' Q' hB hI hE => ?_)
      rotate_left
      · have hxc := eg1 _ _ hx0 nofun
        have hbc := hb.ext eg1
        have oyc := oy.ext eg1
        obtain ⟨Tc, tyc⟩ := oyc.td
        walk_at "go"
        refine w_ownD hxc tyc ⟨x, b, y, d, rfl, hbc, bok, oyc, fun v ev v0 v1 => ?_, fun hf => hE (hfit2.symm.trans hf)⟩
        have z := rep_mv (t := 1 * v) hw (by omega) (by omega) rep
        exact ⟨⟨z.1, z.2.1⟩, fun r H' nr hr s => hB (yes2 v ev v0 v1) r _ H' s hr (z.2.2.ok hw)⟩
      rw [show (PyData.list [.str (ceT 3), d]).shown = ty2 from htx2] at gy1
      walk_at "go"
      refine new (show 1 ≤ sizeLine by decide) fun r F1 nr1 hr1 sr1 => ?_
      have eh1 : ExtN H F1 := eg1.trans (ExtN.of (sd1.trans sr1))
      have td1 := (tc1.ext sd1).ext sr1
      have nR : ∀ {a : Addr} {o : HO}, H a = some o → (∀ ps, o ≠ .tbl ps) → a ≠ r := fun e n => ne_of_none (sd1 _ _ (eg1 _ _ e n)) nr1
      have hr1 : F1 r = some (.lst [.str y1]) := hr1
      walk_at "go"
      refine w_bm ?_
      walk_at "go"
      refine ⟨ty_list hr1, ?_⟩
      walk_at "go"
      refine ⟨td1, fun C2 ec2 tc2 => ?_⟩
      have eg2 : ExtN H C2 := eh1.trans ec2
      refine heardG (n := 14) (pre := "['told', Blend") (d := d) (y := y) (fits := stp) 3 (.inr rfl) (oy.ext eg2) ok (fun bq => cut14 _) (fun y2 D2 sd2 gy2 => ?_) (fun E' Q' hB hI hE => ?_)
      rotate_left
      · have hxc := eg2 _ _ hx0 nofun
        have hbc := hb.ext eg2
        have oyc := oy.ext eg2
        obtain ⟨Tc, tyc⟩ := oyc.td
        walk_at "go"
        refine w_ownD hxc tyc ⟨x, b, y, d, rfl, hbc, bok, oyc, fun v ev v0 v1 => ?_, fun hf => hE (hfit2.symm.trans hf)⟩
        have z := rep_mv (t := (-1) * v) hw (by omega) (by omega) rep
        exact ⟨⟨z.1, z.2.1⟩, fun r H' nr hr s => hB (yes2 v ev v0 v1) r _ H' s hr (z.2.2.ok hw)⟩
      rw [show (PyData.list [.str (ceT 3), d]).shown = ty2 from htx2] at gy2
      walk_at "go"
      have hs2 := sd2 _ _ (ec2 _ _ hr1 nofun)
      refine w_app hs2 (show 1 < sizeLine by decide) rfl fun F2 hr2 cr2 => ?_
      have hr2 : F2 r = some (.lst [.str y1, .str y2]) := hr2
      have td2 := tabs_list hs2 cr2 (tc2.ext sd2)
      have eh2 : ExtN H F2 := fun a o e n => (cr2 a (nR e n)).trans (sd2 _ _ (eg2 _ _ e n))
      walk_at "go"
      cases hst : stp with
      | true =>
        refine iteT ?_
        walk_at "go"
        refine over_l (SqL.of hr2) ?_
        intro D3 nD3
        have sD3 : Same F2 (upd F2 D3 (.lst [])) := fun b o e => by
          rw [upd_ne (ne_of_none e nD3)]
          exact e
        have gy : ∀ z ∈ [y1, y2], Good stp ty2 14 "['told', Blend" z := fun z hz => by
          simp only [List.mem_cons, List.not_mem_nil, or_false] at hz
          rcases hz with rfl | rfl <;> assumption
        have hrz : F2 r = some (.lst ([y1, y2].map V.str)) := hr2
        refine lc_list (K := K) (a := r) (xs := [y1, y2].map V.str) (fun i H' => H' D3 = some (.lst (List.replicate i (V.str "['told', Blend"))) ∧ Same F2 H') ⟨upd_same, sD3⟩ (fun i H' _ ⟨_, s⟩ => SqL.of (s _ _ hrz)) (fun i x H' hx ⟨hD, s⟩ => ?_) (fun M1 ⟨hD3, m1⟩ => ?_)
        · rw [List.getElem?_map] at hx
          obtain ⟨z, hz, rfl⟩ := Option.map_eq_some_iff.mp hx
          have gd := gy z (List.mem_of_getElem? hz)
          have li : i < 2 := by
            have := (List.getElem?_eq_some_iff.mp hz).1
            exact this
          walk_at "go"
          refine ⟨rfl, ?_⟩
          walk_at "go"
          unfold tYes
          refine iteT ?_
          unfold tSl
          walk_at "go"
          refine ⟨14, rfl, _, rfl, gd.l, ?_⟩
          rw [gd.y hst]
          refine ⟨_, hD, ?_, ?_, fun b o e => (upd_ne (ne_of_none e nD3)).trans (s b o e)⟩
          · rw [List.length_replicate]
            exact Nat.lt_of_lt_of_le li (by decide)
          · rw [upd_same, List.replicate_succ']
        walk_at "go"
        refine new (show 1 ≤ sizeLine by decide) fun q6 M2 n6 h6 m6 => ?_
        walk_at "go"
        refine ⟨q6, ((2 : Nat) : Int), _, rfl, rfl, h6, by decide, by decide, show 1 * 2 ≤ sizeLine by decide, fun q7 n7 => ?_⟩
        have m7 : Same M2 (upd M2 q7 (.lst (List.replicate ((2 : Nat) : Int).toNat [V.str "['told', Blend"]).flatten)) := fun b o e => by
          rw [upd_ne (ne_of_none e n7)]
          exact e
        have h7 : upd M2 q7 (.lst (List.replicate ((2 : Nat) : Int).toNat [V.str "['told', Blend"]).flatten) q7 = some (.lst [.str "['told', Blend", .str "['told', Blend"]) := upd_same
        have hD4 : upd M2 q7 (.lst (List.replicate ((2 : Nat) : Int).toNat [V.str "['told', Blend"]).flatten) D3 = some (.lst [.str "['told', Blend", .str "['told', Blend"]) := m7 _ _ (m6 _ _ hD3)
        refine ⟨_, _, .lst (SqL.of hD4) (.cons (.str _) (.cons (.str _) .nil)), .lst (SqL.of h7) (.cons (.str _) (.cons (.str _) .nil)), by decide +kernel, by decide +kernel, ?_⟩
        rw [show PyData.eqv (.list [.str "['told', Blend", .str "['told', Blend"]) (.list [.str "['told', Blend", .str "['told', Blend"]) = true by decide +kernel]
        have mm := m1.trans (m6.trans m7)
        exact q _ (eh2.trans (ExtN.of mm)) (td2.ext mm)
      | false =>
        refine iteF ?_
        walk_at "go"
        refine w_lstB ?_
        walk_at "go"
        refine newB (by show 2 ≤ sizeLine; decide) fun p5 J1 n5 m5 h5 s5 => ?_
        walk_at "go"
        refine rep_due ((oy.ext eh2)) ok (.inr (.inr rfl)) (fun J2 sj => ?_) m5 h5 s5
        rw [htx2]
        walk_at "go"
        refine new (show 1 ≤ sizeLine by decide) fun p6 J3 n6 h6 s6 => ?_
        walk_at "go"
        have hr3 := s6 _ _ (sj _ _ hr2)
        rw [gy1.n hst, gy2.n hst] at hr3
        refine ⟨p6, ((2 : Nat) : Int), _, rfl, rfl, h6, by decide, by decide, show 1 * 2 ≤ sizeLine by decide, fun p7 n7 => ?_⟩
        have s7 : Same J3 (upd J3 p7 (.lst (List.replicate ((2 : Nat) : Int).toNat [V.str ty2]).flatten)) := fun b o e => by
          rw [upd_ne (ne_of_none e n7)]
          exact e
        have h7 : upd J3 p7 (.lst (List.replicate ((2 : Nat) : Int).toNat [V.str ty2]).flatten) p7 = some (.lst [.str ty2, .str ty2]) := upd_same
        have ot := ok.o "shift" (.inr rfl)
        rw [htx2] at ot
        have sh : SeqAt.shaped (.list [.str ty2, .str ty2]) = true := by
          simp [SeqAt.shaped, PyData.canLay0, PyData.canLayAll0, PyData.depth, PyData.depthAll, ot]
        have eq : PyData.eqv (.list [.str ty2, .str ty2]) (.list [.str ty2, .str ty2]) = true := by
          simp [PyData.eqv, PyData.eqvAll]
        refine ⟨_, _, .lst (SqL.of (s7 _ _ hr3)) (.cons (.str _) (.cons (.str _) .nil)), .lst (SqL.of h7) (.cons (.str _) (.cons (.str _) .nil)), sh, sh, ?_⟩
        rw [eq]
        have mm := sj.trans (s6.trans s7)
        exact q _ (eh2.trans (ExtN.of mm)) (td2.ext mm)
end
end Law

set_option Elab.async false
set_option linter.all false
set_option maxRecDepth 100000
set_option maxHeartbeats 4000000
namespace Law
open PySem PySem.Spec PySem.Calls PyProof.Rows L2 KG LamX
local macro_rules | `(tactic| walk_at "1") => `(tactic| first
  | (with_reducible refine w_var rfl ?_) | (with_reducible refine w_c ?_) | (with_reducible refine w_seq ?_) | (with_reducible refine w_asg ?_) | (with_reducible refine w_gname ?_) | (with_reducible refine w_op ?_) | (with_reducible refine w_un ?_)
  | (with_reducible refine w_add ?_) | (with_reducible refine w_sub ?_) | ((with_reducible refine' w_mod ?mo ?_); (case mo => first | assumption | decide | omega)) | (with_reducible refine w_and ?_) | (with_reducible refine w_or ?_) | (with_reducible refine w_xor ?_)
  | (with_reducible refine w_gt ?_) | (with_reducible refine w_lt ?_) | (with_reducible refine w_ge ?_) | (with_reducible refine w_le ?_) | ((with_reducible refine' w_eq ?sc ?_); (case sc => rfl)) | ((with_reducible refine' w_ne ?sc ?_); (case sc => rfl))
  | (with_reducible refine w_ret ?_) | (with_reducible refine w_next ?_) | (with_reducible refine w_ifs ?_) | (with_reducible refine w_ifx ?_) | (with_reducible refine w_test ?_) | (with_reducible refine w_tB ?_) | (with_reducible refine w_bl ?_)
  | ((with_reducible refine' w_ixL ?ixh ?ixa ?_); (case ixh => first | exact SqL.of (by assumption)); (case ixa => first | rfl | skip)) | ((with_reducible refine' w_ixT ?ixh ?ixa ?_); (case ixh => first | exact SqT.of (by assumption)); (case ixa => first | rfl | skip))
  | ((with_reducible refine' w_fld ?_)) | ((with_reducible refine' fld ?fh ?fc ?fn ?fl ?_); (case fh => assumption); (case fc => assumption); (case fn => assumption); (case fl => rfl)) | (with_reducible refine w_sfld ?_)
  | (with_reducible refine Or.inl ⟨_, rfl, ?_⟩) | (with_reducible refine w_gsub ?_) | (with_reducible refine w_andV ?_) | (with_reducible refine w_orV ?_)
  | (with_reducible refine w_nil ?_) | (with_reducible refine w_cons ?_) | (with_reducible refine w_tup ?_) | (with_reducible refine w_lst ?_) | (with_reducible refine w_and2 ?_) | (with_reducible refine w_or2 ?_) | (with_reducible refine w_not ?_) | (with_reducible refine w_cb ?_) | (with_reducible refine w_call ?_) | (with_reducible refine w_par ?_) | (with_reducible refine w_pnil ?_) | (with_reducible refine w_pcons ?_) | (with_reducible refine w_dput ?_) | (with_reducible refine w_dget ?_) | (with_reducible refine w_for ?_) | (with_reducible refine w_itup ?_) | (with_reducible refine w_ilist ?_) | (with_reducible refine w_irng ?_) | (with_reducible refine w_meth ?_) | (with_reducible refine w_make ?_) | (with_reducible refine w_makeK ?_) | (with_reducible refine w_methK ?_) | ((with_reducible refine' mth ?mh ?ml ?_); (case mh => assumption); (case ml => rfl)) | (with_reducible refine w_drop ?_))
local macro_rules | `(tactic| walk_at "go") => `(tactic| ((repeat (walk_at "1")); try dsimp only))
local macro_rules | `(tactic| walk_at "1") => `(tactic| first
  | (with_reducible refine w_notV ?_) | (with_reducible refine w_callK ?_) | (with_reducible refine w_lc ?_) | (with_reducible refine w_chain ?_) | (with_reducible refine w_neg ?_) | ((with_reducible refine' w_shr ?mo ?_); (case mo => first | assumption | omega)))
theorem tabs_kp {T : List (Addr × Str)} {H H' : Hp} {q : Addr} {xs : List V} (hq : H q = some (.lst xs)) (e : ∀ b o, H b = some o → b ≠ q → H' b = some o) (t : Tabs T H) : Tabs T H' := fun pr hp => by
  obtain ⟨ps, h1, h2, h3⟩ := t pr hp
  refine ⟨ps, e _ _ h1 (fun z => ?_), h2, fun pos cv hc => ?_⟩
  · rw [z, hq] at h1
    cases h1
  · obtain ⟨c, e1, e2⟩ := h3 pos cv hc
    refine ⟨c, e1, e _ _ e2 fun z => ?_⟩
    rw [z, hq] at e2
    unfold CodeO at e2
    cases e2
/-- the state of the law's walk -/
structure S1 (n : Nat) (p l : Addr) (cells : List Int) (T : List (Addr × Str)) (th : Addr) (xs : List V) (H : Hp) : Prop where
  pen : PenC n p l cells H
  tab : Tabs T H
  at_ : H th = some (.lst xs)
  its : ItL H xs
  nep : th ≠ p
  len : xs.length = 26
section
variable {n m : Nat} {p l th : Addr} {cells : List Int} {T : List (Addr × Str)} {xs : List V} {H H' : Hp}
theorem S1.same (h : S1 n p l cells T th xs H) (s : Same H H') : S1 n p l cells T th xs H' := ⟨h.pen.same s, h.tab.ext s, s _ _ h.at_, h.its.same s, h.nep, h.len⟩
theorem S1.mono (h : S1 n p l cells T th xs H) (k : n ≤ m) : S1 m p l cells T th xs H := ⟨h.pen.mono k, h.tab, h.at_, h.its, h.nep, h.len⟩
theorem S1.kp (h : S1 n p l cells T th xs H) (pen : PenC m p l cells H') (k : Kp p H H') : S1 m p l cells T th xs H' := by
  obtain ⟨ys, hp, _⟩ := h.pen.at_p
  exact ⟨pen, tabs_kp hp k h.tab, k _ _ h.at_ h.nep, h.its.kp h.pen k, h.nep, h.len⟩
theorem S1.ext (h : S1 n p l cells T th xs H) (e : ExtN H H') (t : Tabs T H') : S1 n p l cells T th xs H' := by
  obtain ⟨a, b, c, d, f, g⟩ := h.pen
  exact ⟨⟨a, e _ _ b nofun, c, d, f, e _ _ g nofun⟩, t, e _ _ h.at_ nofun, h.its.ext e, h.nep, h.len⟩
end
theorem three_at {i : Nat} {x : V} (h : [V.int 8, .int 16, .int 32][i]? = some x) : ∃ w, x = .int w ∧ wd w = true ∧ i < 3 := by
  match i, h with
  | 0, h => cases h; exact ⟨8, rfl, rfl, by decide⟩
  | 1, h => cases h; exact ⟨16, rfl, rfl, by decide⟩
  | 2, h => cases h; exact ⟨32, rfl, rfl, by decide⟩
def rReprO (C : Addr) (sp : Sp) (E : XK) : List V → Hp → VK → Prop := fun xs H Q => ∃ a dx fs, xs = [.ref a] ∧ H a = some (.ins C dx fs) ∧ sp [.ref a] H (fun v H' => ∃ z, v = .str z ∧ Q (.str z) H') E
theorem call_reprO {X : Cx} {CX : CXT} {k : Nat} {f C : Addr} {fd : FuncData} {ps : List Str} {sp : Sp} {E : XK} (F : Gd X.prog X.w X.K X.mg X.base CX k f fd ps sp) (rm : Room (k + 1) X.A) (gd : X.A.guards = some []) (hs : PySem.W.findIn X.K (.ref C) "__repr__" = some (some (.ref f))) (hf : PySem.W.isFn X.K (.ref f) = true)
    (hb : Binds X.K fd ps []) (hx : Passes CX X E) : CallR X (.builtin "repr") (rReprO C sp E) := by
  intro pins s σ H xs us Q I r h
  obtain ⟨a, dx, fs, rfl, ea, q⟩ := h
  obtain ⟨u, rfl, ru⟩ := vals1 r
  cases (show u = Value.ref a from ru)
  obtain ⟨mA, J, _⟩ := ins_get I.hok ea
  obtain ⟨od, J, _⟩ := J.look
  obtain ⟨m, fr⟩ := I.fr
  have room := rm.units
  have one : Vals [V.ref a] [Value.ref a] := .cons rfl .nil
  have bt := bind_pos (dvs := []) (vs := [V.ref a]) F hb .nil I.kIn one q
  refine PySem.W.repr_K (by show X.A.units + 1 < cLine; omega) fr I.ok.mod.kin J hs hf ?_
  refine wpAny_mono (run_at (us := [.ref a]) F rm.in1 (in1_gd gd) I.env0.in1 (fun e s' he => hx pins σ H s e s' I he) I bt one q) (fun v s' hv => ?_) fun _ _ z => z
  obtain ⟨y, H', J', ry, z, ey, q'⟩ := hv
  subst ey
  obtain ⟨t, rfl⟩ := ry
  exact ⟨.str z, H', J', ⟨t, rfl⟩, q'⟩
theorem BlAt.kp {C p a : Addr} {H H' : Hp} {ys : List V} {b : Bq} (h : BlAt C H a b) (k : Kp p H H') (hp : H p = some (.lst ys)) : BlAt C H' a b := by
  obtain ⟨dx, e⟩ := h
  exact ⟨dx, k _ _ e fun z => by rw [z, hp] at e; cases e⟩
/-- the state of a width's turn -/
structure S2 (C : Addr) (n : Nat) (p l : Addr) (cells : List Int) (T : List (Addr × Str)) (th : Addr) (xs : List V) (r : Addr) (b : Bq) (t3 : Addr) (H : Hp) : Prop where
  s : S1 n p l cells T th xs H
  hb : BlAt C H r b
  tp : H t3 = some (.tup [.int 8, .int 16, .int 32])
section
variable {C : Addr} {n m : Nat} {p l th r t3 : Addr} {cells : List Int} {T : List (Addr × Str)} {xs : List V} {b : Bq} {H H' : Hp}
theorem S2.same (h : S2 C n p l cells T th xs r b t3 H) (s : Same H H') : S2 C n p l cells T th xs r b t3 H' := ⟨h.s.same s, h.hb.same s, s _ _ h.tp⟩
theorem S2.mono (h : S2 C n p l cells T th xs r b t3 H) (k : n ≤ m) : S2 C m p l cells T th xs r b t3 H := ⟨h.s.mono k, h.hb, h.tp⟩
theorem tup_kp {ys : List V} (pen : PenC n p l cells H) (k : Kp p H H') (h : H t3 = some (.tup ys)) : H' t3 = some (.tup ys) := k _ _ h fun z => by
  obtain ⟨zs, hp, _⟩ := pen.at_p
  rw [z, hp] at h
  cases h
theorem S2.kp (h : S2 C n p l cells T th xs r b t3 H) (pen : PenC m p l cells H') (k : Kp p H H') : S2 C m p l cells T th xs r b t3 H' := by
  obtain ⟨ys, hp, _⟩ := h.s.pen.at_p
  exact ⟨h.s.kp pen k, h.hb.kp k hp, tup_kp h.s.pen k h.tp⟩
theorem S2.ext (h : S2 C n p l cells T th xs r b t3 H) (e : ExtN H H') (t : Tabs T H') : S2 C n p l cells T th xs r b t3 H' := ⟨h.s.ext e t, h.hb.ext e, e _ _ h.tp nofun⟩
/-- another list is changed -/
theorem S2.set {q : Addr} {ys : List V} (h : S2 C n p l cells T th xs r b t3 H) (hq : H q = some (.lst ys)) (l4 : ys.length = 4) (n1 : q ≠ p) (n2 : q ≠ l) (n3 : q ≠ th) (e : ∀ b, b ≠ q → H' b = H b) : S2 C n p l cells T th xs r b t3 H' := by
  obtain ⟨⟨⟨a1, a2, a3, a4, a5, a6⟩, tab, at_, its, nep, len⟩, ⟨dx, hb⟩, tp⟩ := h
  refine ⟨⟨⟨a1, (e _ (Ne.symm n2)).trans a2, a3, a4, a5, (e _ (Ne.symm n1)).trans a6⟩, tabs_list hq e tab, (e _ (Ne.symm n3)).trans at_, its.map fun x d ov => ov.but hq (by omega) fun b o z nb => (e b nb).trans z, nep, len⟩, ⟨dx, (e _ fun z => ?_).trans hb⟩, (e _ fun z => ?_).trans tp⟩
  · rw [z, hq] at hb; cases hb
  · rw [z, hq] at tp; cases tp
end
theorem ItL.put {H : Hp} : ∀ {ys : List V} {j : Nat} {x : V} {d : PyData}, ItL H ys → Ov H x d → OkD d → ItL H (ys.set j x)
  | _, _, _, _, .nil, _, _ => .nil
  | _, 0, _, _, .cons a b c, ov, ok => .cons ov ok c
  | _, j + 1, _, _, .cons a b c, ov, ok => .cons a b (c.put (j := j) ov ok)
theorem inW {w : Int} (hw : wd w = true) {s : Str} : inV (.str s) [.str "8", .str "16", .str "32", .str (PyData.int w).shown] = !notW s := by
  unfold inV notW
  simp only [List.any_cons, List.any_nil, Bool.or_false, Bool.not_not]
  have e : ∀ z : Str, eqV (.str z) (.str s) = decide (s = z) := fun z => by
    show (z == s) = decide (s = z)
    by_cases h : s = z
    · rw [decide_eq_true h, h]; exact beq_self_eq_true z
    · rw [decide_eq_false h]; exact beq_eq_false_iff_ne.mpr (Ne.symm h)
  have t : (PyData.int w).shown = "8" ∨ (PyData.int w).shown = "16" ∨ (PyData.int w).shown = "32" := by
    rcases wd_of hw with rfl | rfl | rfl
    · exact .inl (by decide +kernel)
    · exact .inr (.inl (by decide +kernel))
    · exact .inr (.inr (by decide +kernel))
  simp only [e]
  rcases t with t | t | t <;> rw [t]
  · cases decide (s = "8") <;> cases decide (s = "16") <;> cases decide (s = "32") <;> rfl
  · cases decide (s = "8") <;> cases decide (s = "16") <;> cases decide (s = "32") <;> rfl
  · cases decide (s = "8") <;> cases decide (s = "16") <;> cases decide (s = "32") <;> rfl
theorem wd_notW {v : Int} (h : wd v = true) : notW (PyData.int v).shown = false := by
  rcases wd_of h with rfl | rfl | rfl <;> decide +kernel
/-- the four numbers that are drawn: the first one is the width, or none -/
def Fst (w : Int) (a : V) : Prop := ∀ i, a = .int i → wd i = true → i = w
def spLaw (K : PySem.W.Frag) (P1 P2 P3 : Addr) : Sp := fun vs H Q _ => ∃ (a : Addr) (ns : List Int), vs = [.ref a] ∧ SqL K H a (ns.map V.int) ∧ ns.length ≤ 63 ∧ H P1 = some (.tbl #[]) ∧ H P2 = some (.tbl #[]) ∧ H P3 = some (.tbl #[]) ∧ ∀ H', Q (.bl true) H'
section
variable {P : Program} {w : World} {K : PySem.W.Frag} {mg : Str → Option Value} {base : Heap} {C aL aP : Addr} {tl : Int → Addr}
theorem ok_law {fl cl0 P1 P2 P3 BE fT fR gC pc1 : Addr} {ce : Nat → Addr} {oc kV doc pm ct mc : Value} {an od : Option Addr} {osl : Array (Option Value)} {fd fdR fdC : FuncData} (h1 : P1 ≠ P3) (h2 : P2 ≠ P3)
    (lk : K.lookup fl = some ⟨oc, od, .func (PySem.W.fnOf "law" "law" (defArgs s_law) (defBody s_law) (defScope s_law) .none kV doc pm an (.ref cl0) ct), osl⟩) (code : PySem.W.codeIn K (.ref cl0) "law" = true)
    (TBt : TabB base mg cl0 P3) (T : T1 K w mg C aL aP tl) (B : B1 mg) (ER : Er K mg BE ce) (DH : DefAt K mg "_law_heard" s__law_heard ["_law_ask"])
    (c_law_pen : Cal P w K mg base 1 "_law_pen" (spPen K)) (c_law_draw : Cal P w K mg base 1 "_law_draw" spDraw) (c_law_odd : Cal P w K mg base 3 "_law_odd" spOdd) (c_law_word : Cal P w K mg base 2 "_law_word" spWord)
    (c_law_operations_right : Cal P w K mg base 12 "_law_operations_right" (spOps C P1 P2 P3)) (c_law_made_right : Cal P w K mg base 12 "_law_made_right" (spMade P1 P2 P3))
    (FR : FnOk P w K mg base CX0 1 fR fdR ["self"] (spRp C)) (hsR : PySem.W.findIn K (.ref C) "__repr__" = some (some (.ref fR))) (hfR : PySem.W.isFn K (.ref fR) = true) (hbR : Binds K fdR ["self"] [])
    (MK : Mk K C fT) (FIN : Gd P w K mg base (L2.CX P w) 4 fT fd ["self", "width", "shift", "keep", "flip"] (spBI C ce)) (b5 : Binds K fd ["self", "width", "shift", "keep", "flip"] [])
    (CR : ClX.CRead K C mc) (CM : ClX.CMet K C mc "constant" pc1 gC) (FCs : Gd P w K mg base (L2.CX P w) 6 gC fdC ["cls", "width", "value"] (spCst C ce)) (bCs : Binds K fdC ["cls", "width", "value"] []) :
    Gd P w K mg base CX0 13 fl (PySem.W.fnOf "law" "law" (defArgs s_law) (defBody s_law) (defScope s_law) .none kV doc pm an (.ref cl0) ct) ["_law_script"] (spLaw K P1 P2 P3) := by
  have hu3 := tt3 (P1 := P1) (P2 := P2) (P3 := P3) h1 h2
  refine gd_of lk code sc_law (fun vs H Q E h => ?_) (fun A outer s H vs Q E rm gd h => ?_)
  · obtain ⟨a, ns, rfl, _⟩ := h
    rfl
  · obtain ⟨a, ns, rfl, hS, hlen, hP1, hP2, hP3, q⟩ := h
    have hu := hu_of rm
    suffices h : ∃ t, PSs (cxOf CX0 P w K mg base ["_law_script", "_law_pen_here", "_law_width", "_law_things", "_law_blend", "_law_kept", "_law_thing", "_law_turn", "_law_numbers", "_law_again"] "law" (defScope s_law) fl (.ref cl0) A outer s H E).nox (defBody s_law) t ∧ t { nx := fun _ H' => Q .non H', rt := Q } (start ["_law_script", "_law_pen_here", "_law_width", "_law_things", "_law_blend", "_law_kept", "_law_thing", "_law_turn", "_law_numbers", "_law_again"] [.ref a]) H by
      obtain ⟨t, h1, h2⟩ := h
      exact ⟨t, h1.nox, h2⟩
    refine ⟨_, (pss_cons (ps_set (i := 1) sc_law.nd rfl (Or.inl rfl) (pc c_law_pen rm (by decide) gd rfl (pa_cons (pv 0) pa_nil)))
    (pss_cons (ps_for PassesOwn.never rfl (pi_tup (pe_tup (pa_cons pe_int (pa_cons pe_int (pa_cons pe_int pa_nil))))) (pg_name (i := 2) sc_law.nd rfl (Or.inl rfl))
      (pss_cons (ps_set (i := 3) sc_law.nd rfl (Or.inl rfl) (pc c_law_odd rm (by decide) gd rfl (pa_cons (pv 1) (pa_cons (pv 2) pa_nil))))
      (pss_cons (ps_set (i := 4) sc_law.nd rfl (Or.inl rfl) (pe_gmake MK FIN (rm.mono (by decide)) gd rfl T.g_Blend b5 .nil pass_no (pa_cons (pv 2) (pa_cons (pe_op op_sub (pc c_law_draw rm (by decide) gd rfl (pa_cons (pv 1) (pa_cons pe_int pa_nil))) pe_int) (pa_cons pe_non (pa_cons (pc c_law_word rm (by decide) gd rfl (pa_cons (pv 1) (pa_cons (pv 2) pa_nil))) pa_nil))))))
      (pss_cons (ps_set (i := 5) sc_law.nd rfl (Or.inl rfl) (pe_callB (call_reprO (Gd.of_ok FR) (rm.mono (by decide)) gd hsR hfR hbR pass0) (by rfl) B.g_repr (by decide +kernel) (pa_cons (pv 4) pa_nil)))
      (pss_cons (ps_for PassesOwn.never rfl (pi_list (pv 3)) (pg_name (i := 6) sc_law.nd rfl (Or.inl rfl))
        (pss_one (ps_if (PW.pt (pw_or (pt_not (pt_val (pc c_law_operations_right rm (by decide) gd rfl (pa_cons (pv 4) (pa_cons (pv 6) pa_nil))))) (pw_or1 (pt_cmpR op_ne (pe_callB (call_reprO (Gd.of_ok FR) (rm.mono (by decide)) gd hsR hfR hbR pass0) (by rfl) B.g_repr (by decide +kernel) (pa_cons (pv 4) pa_nil)) (pv 5) (nomark _)))))
          (pss_one (ps_ret pe_bl))
          pss_nil)))
      (pss_one (ps_for PassesOwn.never rfl (pi_range1 rfl B.g_range (pa_cons pe_int pa_nil)) (pg_name (i := 7) sc_law.nd rfl (Or.inl rfl))
        (pss_cons (ps_set (i := 8) sc_law.nd rfl (Or.inl rfl) (pe_lst (pa_cons (pv 2) (pa_cons (pe_op op_sub (pc c_law_draw rm (by decide) gd rfl (pa_cons (pv 1) (pa_cons pe_int pa_nil))) pe_int) (pa_cons (pc c_law_word rm (by decide) gd rfl (pa_cons (pv 1) (pa_cons (pv 2) pa_nil))) (pa_cons (pc c_law_word rm (by decide) gd rfl (pa_cons (pv 1) (pa_cons (pv 2) pa_nil))) pa_nil))))))
        (pss_cons (ps_for PassesOwn.never rfl (pi_range1 rfl B.g_range (pa_cons (pe_op op_add pe_int (pc c_law_draw rm (by decide) gd rfl (pa_cons (pv 1) (pa_cons pe_int pa_nil)))) pa_nil)) (pg_name (i := 9) sc_law.nd rfl (Or.inl rfl))
          (pss_one (ps_asg (pe_ix ix_list (pv 3) (pc c_law_draw rm (by decide) gd rfl (pa_cons (pv 1) (pa_cons (pe_callB call_len_seq (by rfl) B.g_len (by decide +kernel) (pa_cons (pv 3) pa_nil)) pa_nil))) (fun _ _ => rfl)) (pg_sub (pv 8) (pc c_law_draw rm (by decide) gd rfl (pa_cons (pv 1) (pa_cons pe_int pa_nil))) set_list))))
        (pss_mid (ps_if (PW.pt (pw_and (pt_cmpR op_in_seq (pe_callB (call_reprA rm gd) (by rfl) B.g_repr (by decide +kernel) (pa_cons (pe_ix ix_list (pv 8) pe_int (fun _ _ => rfl)) pa_nil)) (pe_tup (pa_cons pe_str (pa_cons pe_str (pa_cons pe_str (pa_cons (pe_callB (call_reprA rm gd) (by rfl) B.g_repr (by decide +kernel) (pa_cons (pv 2) pa_nil)) pa_nil))))) rfl) (pw_and1 (pt_cmpR op_ne (pe_ix ix_list (pv 8) pe_int (fun _ _ => rfl)) (pv 2) (nomark _)))))
          (pss_one (ps_asg pe_int (pg_sub (pv 8) pe_int set_list)))
          pss_nil)
        (pss_one (ps_if (pt_not (pt_val (pc c_law_made_right rm (by decide) gd rfl (pa_cons (pv 2) (pa_cons (pe_callTy call_tuple_of (by rfl) B.g_tuple (by decide +kernel) (pa_cons (pv 8) pa_nil)) pa_nil)))))
          (pss_one (ps_ret pe_bl))
          pss_nil))))))))))))
    (pss_one (ps_ret (pe_cmpR op_eq (pe_lam (k := 10) (t := fun E => ClX.tCMeth C (spCst C ce) E (tC (.ref C)) (tCons (tC (.str "8")) (tCons (tUn (rU fun i => .int (-i)) (tC (.int 1))) tNil))) (T := TT3 P1 P2 P3) DH (heard_gives (k := 8) ER FR hsR hfR hbR rm gd) rfl TBt rfl in3 hu3 rm gd ⟨lamS_by (sc := defScope s_law) (by decide +kernel), fun _ _ _ _ _ => rfl⟩ rfl (fun A outer s H E f c' rm3 gd3 => (pe_gcm (pe_glob (v := .ref C) rfl T.g_Blend rfl) CR CM FCs (rm3.mono (by decide)) gd3 bCs pass_lam (pa_cons pe_str (pa_cons (pe_un un_neg pe_int) pa_nil))))) (pe_callB (call_reprA rm gd) (by rfl) B.g_repr (by decide +kernel) (pa_cons (pe_lstB (pa_cons pe_str (pa_cons pe_str pa_nil))) pa_nil)) (nomark _)))))), ?_⟩
    walk_at "go"
    refine ⟨a, ns, rfl, hS, hlen, fun p l cells H1 np pen1 s1 => ?_⟩
    walk_at "go"
    obtain ⟨ys, hp1, _⟩ := pen1.at_p
    have tabs0 : Tabs (TT3 P1 P2 P3) H := fun pr hp => by
      simp only [List.mem_cons, List.not_mem_nil, or_false] at hp
      rcases hp with z | z | z
      · rw [z]; exact TabS.nil hP1
      · rw [z]; exact TabS.nil hP2
      · rw [z]; exact TabS.nil hP3
    refine new (show 3 ≤ sizeLine by decide) fun t3 H3 n3 h3 s3 => ?_
    walk_at "go"
    refine over_t (SqT.of h3) (for_tup (xs := [.int 8, .int 16, .int 32]) (fun i σ H' => (∃ v2 v3 v4 v5 v6 v7 v8 v9, σ = [some (.ref a), some (.ref p), v2, v3, v4, v5, v6, v7, v8, v9]) ∧ PenC (1000 * i) p l cells H' ∧ Tabs (TT3 P1 P2 P3) H' ∧ H' t3 = some (.tup [.int 8, .int 16, .int 32]))
      ⟨⟨none, none, none, none, none, none, none, none, rfl⟩, (pen1.same s3).mono (by omega), (tabs0.ext s1).ext s3, h3⟩ (fun i σ H' _ ⟨_, _, _, h⟩ => SqT.of h) ?_ ?_)
    · rintro i x σ H4 hx ⟨⟨v2, v3, v4, v5, v6, v7, v8, v9, rfl⟩, pen4, tab4, tp4⟩
      obtain ⟨wi, rfl, hw, hi⟩ := three_at hx
      obtain ⟨f0, f1, f2, f3⟩ := wd_fw hw
      walk_at "go"
      refine ⟨p, l, cells, 1000 * i, wi, rfl, pen4, by omega, hw, fun th xs H5 nep nel hth its len pen5 k5 => ?_⟩
      have tp5 := tup_kp pen4 k5 tp4
      have tab5 : Tabs (TT3 P1 P2 P3) H5 := by
        obtain ⟨ys, hp, _⟩ := pen4.at_p
        exact tabs_kp hp k5 tab4
      have Z5 : S1 (1000 * i + 12) p l cells (TT3 P1 P2 P3) th xs H5 := ⟨pen5, tab5, hth, its, nep, len⟩
      walk_at "go"
      refine ⟨p, l, cells, 1000 * i + 12, 5, rfl, pen5, by omega, by decide, by decide, fun d0 H6 c0 c1 pen6 k6 => ?_⟩
      have Z6 := Z5.kp pen6 k6
      have tp6 := tup_kp pen5 k6 tp5
      walk_at "go"
      refine ⟨p, l, cells, 1000 * i + 12 + 1, wi, rfl, pen6, by omega, hw, fun vw H7 w0 w1 pen7 k7 => ?_⟩
      have Z7 := Z6.kp pen7 k7
      have tp7 := tup_kp pen6 k7 tp6
      walk_at "go"
      have okB : okN wi (d0 - 2) (fw wi) vw = true := okN_mk hw (by omega) (by omega) ⟨f0, Int.le_refl _⟩ ⟨w0, w1⟩
      obtain ⟨gr, rep⟩ := norm_rep okB
      refine mk_blX rfl (.inl ⟨rfl, rfl⟩) okB fun r H8 nr hr s8 => ?_
      have Z8 : S2 C (1000 * i + 19) p l cells (TT3 P1 P2 P3) th xs r (norm wi (d0 - 2) (fw wi) vw) t3 H8 := ⟨(Z7.same s8).mono (by omega), hr, s8 _ _ tp7⟩
      have bok := norm_ok okB
      have bw : (norm wi (d0 - 2) (fw wi) vw).w = wi := rfl
      generalize norm wi (d0 - 2) (fw wi) vw = b at Z8 hr rep bok bw
      subst bw
      walk_at "go"
      obtain ⟨dx, hrx⟩ := hr
      refine ⟨r, dx, _, rfl, hrx, r, b, rfl, ⟨dx, hrx⟩, bok, _, rfl, ?_⟩
      walk_at "go"
      refine over_l (SqL.of Z8.s.at_) (for_list (xs := xs) (fun j σ H' => (∃ v6, σ = [some (.ref a), some (.ref p), some (.int b.w), some (.ref th), some (.ref r), some (.str (rp b)), v6, v7, v8, v9]) ∧ S2 C (1000 * i + 19) p l cells (TT3 P1 P2 P3) th xs r b t3 H') ⟨⟨v6, rfl⟩, Z8⟩ (fun j σ H' _ ⟨_, L⟩ => SqL.of L.s.at_) ?_ ?_)
      · rintro j x σ H9 hx9 ⟨⟨v6, rfl⟩, Z9⟩
        obtain ⟨d, ov, ok⟩ := Z9.s.its.get hx9
        walk_at "go"
        refine ⟨r, x, b, d, gr, rfl, Z9.hb, hw, rep, ov, ok, Z9.s.tab, fun H10 e10 t10 => ?_⟩
        have Z10 := Z9.ext e10 t10
        refine ⟨true, rfl, ?_⟩
        refine iteF ?_
        walk_at "go"
        obtain ⟨dx2, hr2⟩ := Z10.hb
        refine ⟨r, dx2, _, rfl, hr2, r, b, rfl, ⟨dx2, hr2⟩, bok, _, rfl, ?_⟩
        walk_at "go"
        refine iteNS rfl ?_
        walk_at "go"
        exact ⟨⟨_, rfl⟩, Z10⟩
      · rintro σ H9 ⟨⟨v6, rfl⟩, Z9⟩
        walk_at "go"
        refine over_r (by decide) (by decide) (for_range (n := 16) (fun j σ H' => (∃ v7 v8 v9, σ = [some (.ref a), some (.ref p), some (.int b.w), some (.ref th), some (.ref r), some (.str (rp b)), v6, v7, v8, v9]) ∧ S2 C (1000 * i + 19 + 50 * j) p l cells (TT3 P1 P2 P3) th xs r b t3 H') ⟨⟨v7, v8, v9, rfl⟩, Z9⟩ ?_ ?_)
        · rintro j σ H11 hj ⟨⟨v7, v8, v9, rfl⟩, Z11⟩
          generalize hnn : 1000 * i + 19 + 50 * j = nn at Z11
          have hnb : nn + 100 ≤ 100000 := by omega
          walk_at "go"
          refine ⟨p, l, cells, nn, 3, rfl, Z11.s.pen, by omega, by decide, by decide, fun d1 H12 c0 c1 pen12 k12 => ?_⟩
          have Z12 := Z11.kp pen12 k12
          walk_at "go"
          refine ⟨p, l, cells, nn + 1, b.w, rfl, pen12, by omega, hw, fun u1 H13 u10 u11 pen13 k13 => ?_⟩
          have Z13 := Z12.kp pen13 k13
          walk_at "go"
          refine ⟨p, l, cells, nn + 1 + 6, b.w, rfl, pen13, by omega, hw, fun u2 H14 u20 u21 pen14 k14 => ?_⟩
          have Z14 := Z13.kp pen14 k14
          walk_at "go"
          refine new (show 4 ≤ sizeLine by decide) fun qn H15 nqn hqn s15 => ?_
          have Z15 := Z14.same s15
          have np4 : qn ≠ p := by
            obtain ⟨zs, hp, _⟩ := Z14.s.pen.at_p
            exact (ne_of_none hp nqn).symm
          have nl4 : qn ≠ l := (ne_of_none Z14.s.pen.2.1 nqn).symm
          have nt4 : qn ≠ th := (ne_of_none Z14.s.at_ nqn).symm
          have i15 : ItL H15 [.int b.w, .int (d1 - 1), .int u1, .int u2] := .int (by omega) (.int (by omega) (.int (by omega) (.int (by omega) .nil)))
          walk_at "go"
          refine ⟨p, l, cells, nn + 1 + 6 + 6, 2, rfl, Z15.s.pen, by omega, by decide, by decide, fun d2 H16 e0 e1 pen16 k16 => ?_⟩
          have Z16 := Z15.kp pen16 k16
          have hq16 : H16 qn = _ := k16 _ _ hqn np4
          have i16 := i15.kp Z15.s.pen k16
          walk_at "go"
          refine over_r (by omega) (by omega) (for_range (n := (1 + d2).toNat) (fun g σ H' => (∃ v9, σ = [some (.ref a), some (.ref p), some (.int b.w), some (.ref th), some (.ref r), some (.str (rp b)), v6, some (.int (0 + (j : Int))), some (.ref qn), v9]) ∧ S2 C (nn + 14 + 2 * g) p l cells (TT3 P1 P2 P3) th xs r b t3 H' ∧ ∃ ys, H' qn = some (.lst ys) ∧ ItL H' ys ∧ ys.length = 4) ⟨⟨v9, rfl⟩, Z16, _, hq16, i16, rfl⟩ ?_ ?_)
          · rintro g σ H17 hg ⟨⟨v9, rfl⟩, Z17, ys, hys, iys, l4⟩
            have hgb : g < 2 := by omega
            walk_at "go"
            refine ⟨th, _, rfl, .inl (SqL.of Z17.s.at_), ?_⟩
            rw [Z17.s.len]
            refine ⟨p, l, cells, nn + 14 + 2 * g, ((26 : Nat) : Int), rfl, Z17.s.pen, by omega, by decide, by decide, fun k1 H18 g0 g1 pen18 k18 => ?_⟩
            have Z18 := Z17.kp pen18 k18
            have hys18 := k18 _ _ hys np4
            have iys18 := iys.kp Z17.s.pen k18
            obtain ⟨kn, rfl⟩ := Int.eq_ofNat_of_zero_le g0
            have kl : kn < xs.length := by rw [Z17.s.len]; omega
            have hxk : xs[kn]? = some xs[kn] := List.getElem?_eq_getElem kl
            refine w_ixL (SqL.of Z18.s.at_) (atI_nat hxk) ?_
            generalize xs[kn] = xv at hxk
            walk_at "go"
            refine ⟨p, l, cells, nn + 14 + 2 * g + 1, 4, rfl, Z18.s.pen, by omega, by decide, by decide, fun k2 H19 g2 g3 pen19 k19 => ?_⟩
            have Z19 := Z18.kp pen19 k19
            have hys19 := k19 _ _ hys18 np4
            have iys19 := iys18.kp Z18.s.pen k19
            obtain ⟨jn, rfl⟩ := Int.eq_ofNat_of_zero_le g2
            have hix : ixN ys.length ((jn : Nat) : Int) = some jn := by
              unfold ixN
              rw [if_pos g2, if_pos (by rw [l4]; omega), Int.toNat_natCast]
            obtain ⟨dv, ovv, okv⟩ := Z19.s.its.get hxk
            refine w_setL hys19 hix ?_
            walk_at "go"
            have e20 : ∀ bb, bb ≠ qn → (upd H19 qn (.lst (ys.set jn xv))) bb = H19 bb := fun bb nb => upd_ne nb
            have Z20 := (Z19.set hys19 l4 np4 nl4 nt4 e20).mono (show nn + 14 + 2 * g + 1 + 1 ≤ nn + 14 + 2 * (g + 1) by omega)
            refine ⟨⟨_, rfl⟩, Z20, _, upd_same, ?_, by rw [List.length_set]; exact l4⟩
            have mv : ∀ x d, Ov H19 x d → Ov (upd H19 qn (.lst (ys.set jn xv))) x d := fun x d ov => ov.but hys19 (by omega) fun bb o z nb => (e20 bb nb).trans z
            exact (iys19.map mv).put (mv _ _ ovv) okv
          · rintro σ H17 ⟨⟨v9, rfl⟩, Z17, ys, hys, iys, l4⟩
            have Z17 := Z17.mono (show nn + 14 + 2 * (1 + d2).toNat ≤ nn + 18 by omega)
            obtain ⟨qa, qb, qc, qd, rfl⟩ : ∃ qa qb qc qd, ys = [qa, qb, qc, qd] := by
              match ys, l4 with
              | [qa, qb, qc, qd], _ => exact ⟨qa, qb, qc, qd, rfl⟩
            refine w_mid (fun σ' H' => σ' = [some (.ref a), some (.ref p), some (.int b.w), some (.ref th), some (.ref r), some (.str (rp b)), v6, some (.int (0 + (j : Int))), some (.ref qn), v9] ∧ S2 C (nn + 18) p l cells (TT3 P1 P2 P3) th xs r b t3 H' ∧ ∃ qa, H' qn = some (.lst [qa, qb, qc, qd]) ∧ ItL H' [qa, qb, qc, qd] ∧ Fst b.w qa) ?_ fun σ' H18 ⟨es, Z18, qa, hq18, iq18, fst⟩ => ?_
            · cases iys with
              | cons ova oka ir =>
              rename_i da
              have kw : OkD (.int b.w) := okD_int (by omega)
              walk_at "go"
              refine ⟨qa, da, rfl, ova.da, fun k => ova.dn k, oka.h.1, oka.h.2.1, Nat.le_trans oka.h.2.2 (by decide), ?_⟩
              walk_at "go"
              refine ⟨.int b.w, .int b.w, rfl, .int _, fun k => (by simp [PyData.hasDict] at k), kw.h.1, kw.h.2.1, Nat.le_trans kw.h.2.2 (by decide), ?_⟩
              walk_at "go"
              refine new (show 4 ≤ sizeLine by decide) fun t9 H18 n9 h9 s9 => ?_
              have hy18 := s9 _ _ hys
              have Z18 := Z17.same s9
              have i18 : ItL H18 [qa, qb, qc, qd] := .cons (ova.same s9) oka (ir.same s9)
              refine w_in (.inr (SqT.of h9)) rfl rfl ?_
              rw [if_neg Bool.false_ne_true]
              refine ⟨_, rfl, ?_⟩
              rw [inW hw]
              have stay : Fst b.w qa → ∃ q', H18 qn = some (.lst [q', qb, qc, qd]) ∧ ItL H18 [q', qb, qc, qd] ∧ Fst b.w q' := fun f => ⟨qa, hy18, i18, f⟩
              by_cases hint : ∃ v, qa = .int v
              · obtain ⟨v, rfl⟩ := hint
                have ed : da = .int v := by
                  rcases ova with ⟨e, _⟩ | ⟨_, e, _⟩ | ⟨_, e, e2⟩ | ⟨_, e, _⟩ | ⟨_, _, e, _⟩
                  · cases e
                  · cases e
                  · cases e; exact e2
                  · cases e
                  · cases e
                subst ed
                cases hb9 : notW (PyData.int v).shown with
                | true =>
                  refine iteF ?_
                  refine iteF ?_
                  walk_at "go"
                  refine ⟨rfl, Z18, stay fun i' e' w' => ?_⟩
                  cases e'
                  rw [wd_notW w'] at hb9
                  cases hb9
                | false =>
                  refine iteT ?_
                  walk_at "go"
                  by_cases e9 : v = b.w
                  · rw [decide_eq_true (congrArg V.int e9)]
                    refine iteF ?_
                    walk_at "go"
                    exact ⟨rfl, Z18, stay fun i' e' _ => by cases e'; exact e9⟩
                  · rw [decide_eq_false fun z => e9 (V.int.inj z)]
                    refine iteT ?_
                    walk_at "go"
                    refine w_setL hy18 (show ixN 4 0 = some 0 from rfl) ?_
                    walk_at "go"
                    have e20 : ∀ bb, bb ≠ qn → (upd H18 qn (.lst ([V.int v, qb, qc, qd].set 0 (.int 9)))) bb = H18 bb := fun bb nb => upd_ne nb
                    refine ⟨rfl, Z18.set hy18 rfl np4 nl4 nt4 e20, .int 9, upd_same, ?_, fun i' e' w' => ?_⟩
                    · have mv : ∀ x d, Ov H18 x d → Ov (upd H18 qn (.lst ([V.int v, qb, qc, qd].set 0 (.int 9)))) x d := fun x d ov => ov.but hy18 (by show 2 ≤ 4; decide) fun bb o z nb => (e20 bb nb).trans z
                      exact .int (by decide) ((ir.same s9).map mv)
                    · cases e'
                      cases w'
              · have nb : notW da.shown = true := by
                  rcases oka.w with ⟨i', rfl⟩ | z
                  · exfalso
                    rcases ova with ⟨_, e⟩ | ⟨_, _, e⟩ | ⟨v, e, _⟩ | ⟨_, _, e⟩ | ⟨_, _, _, _, e⟩
                    · cases e
                    · cases e
                    · exact hint ⟨v, e⟩
                    · cases e
                    · rcases e with ⟨_, e⟩ | ⟨_, e⟩ | ⟨_, e⟩ | ⟨_, e⟩ | ⟨_, e⟩ | ⟨_, e⟩ <;> cases e
                  · exact z
                rw [nb]
                refine iteF ?_
                refine iteF ?_
                walk_at "go"
                exact ⟨rfl, Z18, stay fun i' e' _ => absurd ⟨i', e'⟩ hint⟩
            · subst es
              walk_at "go"
              refine ⟨qn, _, rfl, .inl ⟨SqL.of hq18, fun tq ntq => ?_⟩⟩
              have s19 : Same H18 (upd H18 tq (.tup [qa, qb, qc, qd])) := fun bb o e => (upd_ne (ne_of_none e ntq)).trans e
              have ht19 : upd H18 tq (.tup [qa, qb, qc, qd]) tq = some (.tup [qa, qb, qc, qd]) := upd_same
              generalize upd H18 tq (.tup [qa, qb, qc, qd]) = H19 at s19 ht19
              have Z19 := Z18.same s19
              have i19 := iq18.same s19
              cases i19 with
              | cons ova oka ir =>
              cases ir with
              | cons ovb okb ir =>
              cases ir with
              | cons ovc okc ir =>
              cases ir with
              | cons ovd okd ir =>
              walk_at "go"
              refine ⟨tq, b.w, qa, qb, qc, qd, _, _, _, _, rfl, ht19, ova, ovb, ovc, ovd, oka, okb, okc, okd, hw, fst, Z19.s.tab, fun H20 e20 t20 => ?_⟩
              refine ⟨true, rfl, ?_⟩
              refine iteF ?_
              walk_at "go"
              exact ⟨⟨_, _, _, rfl⟩, (Z19.ext e20 t20).mono (by omega)⟩
        · rintro σ H11 ⟨⟨v7, v8, v9, rfl⟩, Z11⟩
          walk_at "go"
          exact ⟨⟨_, _, _, _, _, _, _, _, rfl⟩, Z11.s.pen.mono (by omega), Z11.s.tab, Z11.tp⟩
    · rintro σ H4 ⟨⟨v2, v3, v4, v5, v6, v7, v8, v9, rfl⟩, pen4, tab4, tp4⟩
      walk_at "go"
      refine ⟨tab4, fun A2 e2 t2 => ?_⟩
      refine fun E' Q' hE hT => ?_
      walk_at "go"
      refine ⟨rfl, ?_⟩
      walk_at "go"
      refine ⟨.str "8", _, .str "8", .int (-1), rfl, oS _, oI _, fun i v hf => ?_, fun n v en => (by cases en)⟩
      have hf : some (0, V.str "8") = some (i, v) := hf
      cases hf
      refine heard_err (.inl rfl) (oS "8") (okD_of (by decide +kernel)) (Same.refl _) (fun A3 s3 => ?_) hE
      walk_at "go"
      refine w_lstB ?_
      walk_at "go"
      refine newB (by show 2 ≤ sizeLine; decide) fun p5 J1 n5 m5 h5 s5 => ?_
      walk_at "go"
      refine rep_due (oS "8") (okD_of (by decide +kernel)) (.inl rfl) (fun J2 sj => ?_) m5 h5 s5
      walk_at "go"
      rw [show decide (V.str (PyData.list [.str (ceT 0), .str "8"]).shown = V.str (PyData.list [.str "width", .str "8"]).shown) = true from decide_eq_true rfl]
      exact q J2
end
end Law

set_option Elab.async false
set_option linter.all false
set_option maxRecDepth 100000
set_option maxHeartbeats 4000000
namespace Law
open PySem PySem.Spec PySem.Calls PyProof.Rows L2 KG
local macro_rules | `(tactic| walk_at "1") => `(tactic| first
  | (with_reducible refine w_var rfl ?_) | (with_reducible refine w_c ?_) | (with_reducible refine w_seq ?_) | (with_reducible refine w_asg ?_) | (with_reducible refine w_gname ?_) | (with_reducible refine w_op ?_) | (with_reducible refine w_un ?_)
  | (with_reducible refine w_add ?_) | (with_reducible refine w_sub ?_) | ((with_reducible refine' w_mod ?mo ?_); (case mo => first | assumption | decide | omega)) | (with_reducible refine w_and ?_) | (with_reducible refine w_or ?_) | (with_reducible refine w_xor ?_)
  | (with_reducible refine w_gt ?_) | (with_reducible refine w_lt ?_) | (with_reducible refine w_ge ?_) | (with_reducible refine w_le ?_) | ((with_reducible refine' w_eq ?sc ?_); (case sc => rfl)) | ((with_reducible refine' w_ne ?sc ?_); (case sc => rfl))
  | (with_reducible refine w_ret ?_) | (with_reducible refine w_next ?_) | (with_reducible refine w_ifs ?_) | (with_reducible refine w_ifx ?_) | (with_reducible refine w_test ?_) | (with_reducible refine w_tB ?_) | (with_reducible refine w_bl ?_)
  | ((with_reducible refine' w_ixL ?ixh ?ixa ?_); (case ixh => first | exact SqL.of (by assumption)); (case ixa => first | rfl | skip)) | ((with_reducible refine' w_ixT ?ixh ?ixa ?_); (case ixh => first | exact SqT.of (by assumption)); (case ixa => first | rfl | skip))
  | ((with_reducible refine' w_fld ?_)) | ((with_reducible refine' fld ?fh ?fc ?fn ?fl ?_); (case fh => assumption); (case fc => assumption); (case fn => assumption); (case fl => rfl)) | (with_reducible refine w_sfld ?_)
  | (with_reducible refine Or.inl ⟨_, rfl, ?_⟩) | (with_reducible refine w_gsub ?_) | (with_reducible refine w_andV ?_) | (with_reducible refine w_orV ?_)
  | (with_reducible refine w_nil ?_) | (with_reducible refine w_cons ?_) | (with_reducible refine w_tup ?_) | (with_reducible refine w_lst ?_) | (with_reducible refine w_and2 ?_) | (with_reducible refine w_or2 ?_) | (with_reducible refine w_not ?_) | (with_reducible refine w_cb ?_) | (with_reducible refine w_call ?_) | (with_reducible refine w_par ?_) | (with_reducible refine w_pnil ?_) | (with_reducible refine w_pcons ?_) | (with_reducible refine w_dput ?_) | (with_reducible refine w_dget ?_) | (with_reducible refine w_for ?_) | (with_reducible refine w_itup ?_) | (with_reducible refine w_ilist ?_) | (with_reducible refine w_irng ?_) | (with_reducible refine w_meth ?_) | (with_reducible refine w_make ?_) | (with_reducible refine w_makeK ?_) | (with_reducible refine w_methK ?_) | ((with_reducible refine' mth ?mh ?ml ?_); (case mh => assumption); (case ml => rfl)) | (with_reducible refine w_drop ?_))
local macro_rules | `(tactic| walk_at "go") => `(tactic| ((repeat (walk_at "1")); try dsimp only))
local macro_rules | `(tactic| walk_at "1") => `(tactic| first
  | (with_reducible refine w_notV ?_) | (with_reducible refine w_callK ?_) | (with_reducible refine w_lc ?_) | (with_reducible refine w_chain ?_) | (with_reducible refine w_neg ?_) | ((with_reducible refine' w_shr ?mo ?_); (case mo => first | assumption | omega)))
theorem ktup {K : PySem.W.Frag} {a : Addr} {dd : Option Addr} {its : Array Value} {n : Nat} {sl : Array (Option Value)} {xs : List V} (h : K.lookup a = some ⟨.type "tuple", dd, .seq its n, sl⟩) (z : Nat.ble its.size 100 = true) (r : Vals xs its.toList) : KTup K a xs :=
  ⟨_, its, n, h, rfl, rfl, Nat.le_trans (Nat.le_of_ble_eq_true z) (by decide), r⟩
theorem kit_own {K : PySem.W.Frag} {t : Value} {C : Addr} {b : Bool} (hd : PySem.W.hasDictIn K C = true) (ty : PySem.W.typeIn K (.ref C) = some (.type "type")) (ne : (t == Value.ref C) = false) (s : PySem.W.subIn K t (.ref C) = some b) : PySem.W.kitOne K t (.ref C) = some b := by
  obtain ⟨cd, hc, _⟩ := PySem.W.any_some hd
  have e2 : ((PySem.W.clsIn K C).isSome && PySem.W.typeIn K (.ref C) == some (.type "type")) = true := by rw [hc, ty] <;> rfl
  unfold PySem.W.kitOne
  rw [ne, if_neg Bool.false_ne_true]
  show (if ((PySem.W.clsIn K C).isSome && PySem.W.typeIn K (.ref C) == some (.type "type")) = true then PySem.W.subIn K t (.ref C) else none) = some b
  rw [if_pos e2]
  exact s
theorem kit_same {K : PySem.W.Frag} {t : Value} : PySem.W.kitOne K t t = some true := if_pos (beq_self_eq_true t)
theorem kit_ve {K : PySem.W.Frag} {a : Addr} (s : PySem.W.subIn K (.ref a) (.type "ValueError") = some true) : PySem.W.kitOne K (.ref a) (.type "ValueError") = some true := by
  unfold PySem.W.kitOne
  rw [if_neg (by simp)]
  show (if PySem.W.kitMeta "ValueError" = true then PySem.W.subIn K (.ref a) (.type "ValueError") else none) = some true
  rw [if_pos (by decide +kernel)]
  exact s
theorem sup_up {K : PySem.W.Frag} {E BE N : Addr} {nm q : Str} {bs bm : List Value} {hdct : Bool} {sn : List Str} {sub : List Value} {ab : Bool} {col : Option Bool} {dd : Option Addr} {k0 k1 k2 k3 k5 : Option Value} {newId : String} {cdB : ClassData}
    (cl : K.lookup E = some (excClassObj nm q E N bs bm hdct sn sub ab col dd k0 k1 k2 k3 k5 newId)) (cB : PySem.W.clsIn K BE = some cdB) (mB : bm = cdB.mro) (f : PySem.W.findIn K (.ref BE) "__init__" = some (some (.builtin "ValueError.__init__"))) : PySem.W.ks_superIn K E E "__init__" = some (some (.builtin "ValueError.__init__")) := by
  have hcl : PySem.W.clsIn K E = some { name := nm, bases := bs, mro := .ref E :: bm, ns := N, qualname := q, hasDict := hdct, slotNames := sn, subclasses := sub, abstract := ab, collection := col, hasDel := false } := by
    unfold PySem.W.clsIn
    rw [cl] <;> rfl
  unfold PySem.W.ks_superIn
  rw [hcl, Option.bind_some]
  show PySem.W.alongIn K "__init__" (((Value.ref E :: bm).dropWhile (· != .ref E)).drop 1) = _
  have e : ((Value.ref E :: bm).dropWhile (· != .ref E)).drop 1 = bm := by simp [List.dropWhile_cons]
  rw [e, mB]
  unfold PySem.W.findIn at f
  dsimp only at f
  unfold PySem.W.clsIn at cB
  cases z : K.lookup BE with
  | none =>
    rw [z] at cB
    cases cB
  | some o =>
    rw [z] at cB f
    obtain ⟨oc, od, dt, osl⟩ := o
    cases dt with
    | cls cd =>
      cases cB
      exact f
    | _ => cases cB
theorem errX0 : ErrX s_InvalidWidth___init__ "InvalidWidth.__init__" "value" "value" :=
  ⟨_, _, _, _, _, _, _, _, _, _, _, _, rfl, { bind := fun _ _ _ _ _ _ _ _ _ => rfl, ev := ⟨_, fun _ => rfl⟩, par := rfl, k1 := by decide +kernel, k2 := by decide +kernel, k3 := by decide +kernel, k4 := by decide +kernel, npv := by decide, npd := by decide, cell := by decide +kernel, co := by decide +kernel, gen := by decide +kernel, kind := by decide +kernel }⟩
theorem errX2 : ErrX s_InvalidWord___init__ "InvalidWord.__init__" "value" "value" :=
  ⟨_, _, _, _, _, _, _, _, _, _, _, _, rfl, { bind := fun _ _ _ _ _ _ _ _ _ => rfl, ev := ⟨_, fun _ => rfl⟩, par := rfl, k1 := by decide +kernel, k2 := by decide +kernel, k3 := by decide +kernel, k4 := by decide +kernel, npv := by decide, npd := by decide, cell := by decide +kernel, co := by decide +kernel, gen := by decide +kernel, kind := by decide +kernel }⟩
theorem errX3 : ErrX s_InvalidShift___init__ "InvalidShift.__init__" "value" "value" :=
  ⟨_, _, _, _, _, _, _, _, _, _, _, _, rfl, { bind := fun _ _ _ _ _ _ _ _ _ => rfl, ev := ⟨_, fun _ => rfl⟩, par := rfl, k1 := by decide +kernel, k2 := by decide +kernel, k3 := by decide +kernel, k4 := by decide +kernel, npv := by decide, npd := by decide, cell := by decide +kernel, co := by decide +kernel, gen := by decide +kernel, kind := by decide +kernel }⟩
theorem rec_at {K : PySem.W.Frag} {p g : Addr} {T : String} {d : Option Addr} {vs : Array Value} {ss : Array (Option Value)} {rs : List Value} (h : K.lookup p = some ⟨.type T, d, .fields vs, ss⟩) (v : vs.toList = .ref g :: rs) : PySem.W.recIn K p T = some (.ref g :: rs) := by
  unfold PySem.W.recIn
  rw [h]
  show (if (T == T) = true then some vs.toList else none) = _
  rw [beq_self_eq_true, if_pos rfl, v]
theorem bind_blend {K : PySem.W.Frag} {f : Addr} {fd : FuncData} (F : FunD K "__init__" "Blend.__init__" (defArgs s_Blend___init__) (defBody s_Blend___init__) (defScope s_Blend___init__) [.int 0, .non, .int 0] [] f fd) :
    (∃ d2, Vals [.int 0, .non, .int 0] d2 ∧ Binds K fd ["self", "width", "shift", "keep", "flip"] d2) ∧ (∃ d3, Vals [.non, .int 0] d3 ∧ Binds K fd ["self", "width", "shift", "keep", "flip"] d3) ∧ Binds K fd ["self", "width", "shift", "keep", "flip"] [] := by
  have hd : ([.int 0, .non, .int 0] : List V) ≠ [] := by simp
  refine ⟨F.binds1 2 0 hd rfl ?_, F.binds1 3 1 hd rfl ?_, ?_⟩
  · intro T kV doc pm an cdv ct us its h1 h2
    match us, its, h1, h2 with
    | [_, _], [_, _, _], _, _ => exact ⟨_, rfl, rfl⟩
  · intro T kV doc pm an cdv ct us its h1 h2
    match us, its, h1, h2 with
    | [_, _, _], [_, _, _], _, _ => exact ⟨_, rfl, rfl⟩
  · have z : ∃ ds, Vals (([.int 0, .non, .int 0] : List V).drop 3) ds ∧ Binds K fd ["self", "width", "shift", "keep", "flip"] ds := by
      refine F.binds1 5 3 hd rfl ?_
      intro T kV doc pm an cdv ct us its h1 h2
      match us, its, h1, h2 with
      | [_, _, _, _, _], [_, _, _], _, _ => exact ⟨_, rfl, rfl⟩
    obtain ⟨ds, v, b⟩ := z
    cases v
    exact b
theorem all {l : PySem.W.OpenLaw} {w : World} {K : PySem.W.Frag} {h : Heap} {mg : Str → Option Value} {fa : Addr} {q : Program} (X : K.In h) (G : h.Ns mainGlobals mg) (hfa : mg "law" = some (.ref fa)) (tabs : Tabs0 q mg h) (hr1 : ((recsOf q).any fun d => d.name == "_law_made_right") = true) (hr2 : ((recsOf q).any fun d => d.name == "_law_operations_right") = true) (hr3 : ((recsOf q).any fun d => d.name == "law") = true)
    {C aL BE : Addr} {t8 t16 t32 : Addr} {hs1 hs2 hs3 : Int} {ku1 ku2 ku3 : Tok} {nL : Nat} {E0 : Addr} {E1 : Addr} {E2 : Addr} {E3 : Addr} {E4 : Addr} {E5 : Addr} {cdB : ClassData} {nmE0 qE0 : Str} {NE0 : Addr} {bsE0 bmE0 : List Value} {snE0 : List Str} {subE0 : List Value} {abE0 : Bool} {colE0 : Option Bool} {ddE0 : Option Addr} {j0_0 j1_0 j2_0 j3_0 j5_0 : Option Value} {fI0 cda0 cc0 : Addr} {ocE0 kVE0 dcE0 pmE0 ctE0 : Value} {anE0 odE0 : Option Addr} {slE0 : Array (Option Value)} {ccl0 ccv0 : Value} {cdd0 cld0 : Option Addr} {vsE0 : Array Value} {ccs0 csl0 : Array (Option Value)} {fileE0 : Str} {tfE0 : Tok} {nmE2 qE2 : Str} {NE2 : Addr} {bsE2 bmE2 : List Value} {snE2 : List Str} {subE2 : List Value} {abE2 : Bool} {colE2 : Option Bool} {ddE2 : Option Addr} {j0_2 j1_2 j2_2 j3_2 j5_2 : Option Value} {fI2 cda2 cc2 : Addr} {ocE2 kVE2 dcE2 pmE2 ctE2 : Value} {anE2 odE2 : Option Addr} {slE2 : Array (Option Value)} {ccl2 ccv2 : Value} {cdd2 cld2 : Option Addr} {vsE2 : Array Value} {ccs2 csl2 : Array (Option Value)} {fileE2 : Str} {tfE2 : Tok} {nmE3 qE3 : Str} {NE3 : Addr} {bsE3 bmE3 : List Value} {snE3 : List Str} {subE3 : List Value} {abE3 : Bool} {colE3 : Option Bool} {ddE3 : Option Addr} {j0_3 j1_3 j2_3 j3_3 j5_3 : Option Value} {fI3 cda3 cc3 : Addr} {ocE3 kVE3 dcE3 pmE3 ctE3 : Value} {anE3 odE3 : Option Addr} {slE3 : Array (Option Value)} {ccl3 ccv3 : Value} {cdd3 cld3 : Option Addr} {vsE3 : Array Value} {ccs3 csl3 : Array (Option Value)} {fileE3 : Str} {tfE3 : Tok} {fT TD : Addr} {odT anT dT : Option Addr} {slT sT : Array (Option Value)} {ocT kVT dcT pmT cdT ctT oT : Value} {nT : Nat} {tu1 tu2 : Tok} {m_Blend_call : Addr} {odv1 anv1 : Option Addr} {slv1 : Array (Option Value)} {ocv1 kVv1 dcv1 pmv1 cdv1 ctv1 : Value} {m_Blend_repr : Addr} {odv2 anv2 : Option Addr} {slv2 : Array (Option Value)} {ocv2 kVv2 dcv2 pmv2 cdv2 ctv2 : Value} {m_Blend_and : Addr} {odv3 anv3 : Option Addr} {slv3 : Array (Option Value)} {ocv3 kVv3 dcv3 pmv3 cdv3 ctv3 : Value} {m_Blend_or : Addr} {odv4 anv4 : Option Addr} {slv4 : Array (Option Value)} {ocv4 kVv4 dcv4 pmv4 cdv4 ctv4 : Value} {m_Blend_xor : Addr} {odv5 anv5 : Option Addr} {slv5 : Array (Option Value)} {ocv5 kVv5 dcv5 pmv5 cdv5 ctv5 : Value} {m_Blend_rand : Addr} {odv6 anv6 : Option Addr} {slv6 : Array (Option Value)} {ocv6 kVv6 dcv6 pmv6 cdv6 ctv6 : Value} {m_Blend_ror : Addr} {odv7 anv7 : Option Addr} {slv7 : Array (Option Value)} {ocv7 kVv7 dcv7 pmv7 cdv7 ctv7 : Value} {m_Blend_rxor : Addr} {odv8 anv8 : Option Addr} {slv8 : Array (Option Value)} {ocv8 kVv8 dcv8 pmv8 cdv8 ctv8 : Value} {m_Blend_lshift : Addr} {odv9 anv9 : Option Addr} {slv9 : Array (Option Value)} {ocv9 kVv9 dcv9 pmv9 cdv9 ctv9 : Value} {m_Blend_rshift : Addr} {odv10 anv10 : Option Addr} {slv10 : Array (Option Value)} {ocv10 kVv10 dcv10 pmv10 cdv10 ctv10 : Value} {m_Blend_then : Addr} {odv11 anv11 : Option Addr} {slv11 : Array (Option Value)} {ocv11 kVv11 dcv11 pmv11 cdv11 ctv11 : Value} {pCM gCM : Addr} {ddCM : Option Addr} {vsCM : Array Value} {ssCM : Array (Option Value)} {rsCM : List Value} {odv12 anv12 : Option Addr} {slv12 : Array (Option Value)} {ocv12 kVv12 dcv12 pmv12 cdv12 ctv12 : Value} {f_is_int : Addr} {odv13 anv13 : Option Addr} {slv13 : Array (Option Value)} {ocv13 kVv13 dcv13 pmv13 cdv13 ctv13 : Value} {f_is_width : Addr} {odv14 anv14 : Option Addr} {slv14 : Array (Option Value)} {ocv14 kVv14 dcv14 pmv14 cdv14 ctv14 : Value} {f_full_word : Addr} {odv15 anv15 : Option Addr} {slv15 : Array (Option Value)} {ocv15 kVv15 dcv15 pmv15 cdv15 ctv15 : Value} {f_is_word : Addr} {odv16 anv16 : Option Addr} {slv16 : Array (Option Value)} {ocv16 kVv16 dcv16 pmv16 cdv16 ctv16 : Value} {f_shifted : Addr} {odv17 anv17 : Option Addr} {slv17 : Array (Option Value)} {ocv17 kVv17 dcv17 pmv17 cdv17 ctv17 : Value} {f_check_word : Addr} {odv18 anv18 : Option Addr} {slv18 : Array (Option Value)} {ocv18 kVv18 dcv18 pmv18 cdv18 ctv18 : Value} {f_check_shift : Addr} {odv19 anv19 : Option Addr} {slv19 : Array (Option Value)} {ocv19 kVv19 dcv19 pmv19 cdv19 ctv19 : Value} {f__law_pen : Addr} {odv20 anv20 : Option Addr} {slv20 : Array (Option Value)} {ocv20 kVv20 dcv20 pmv20 cdv20 ctv20 : Value} {f__law_draw : Addr} {odv21 anv21 : Option Addr} {slv21 : Array (Option Value)} {ocv21 kVv21 dcv21 pmv21 cdv21 ctv21 : Value} {f__law_word : Addr} {odv22 anv22 : Option Addr} {slv22 : Array (Option Value)} {ocv22 kVv22 dcv22 pmv22 cdv22 ctv22 : Value} {f__law_heard : Addr} {odv23 anv23 : Option Addr} {slv23 : Array (Option Value)} {ocv23 kVv23 dcv23 pmv23 cdv23 ctv23 : Value} {f__law_odd : Addr} {odv24 anv24 : Option Addr} {slv24 : Array (Option Value)} {ocv24 kVv24 dcv24 pmv24 cdv24 ctv24 : Value} {f__law_whole : Addr} {odv25 anv25 : Option Addr} {slv25 : Array (Option Value)} {ocv25 kVv25 dcv25 pmv25 cdv25 ctv25 : Value} {f__law_due : Addr} {odv26 anv26 : Option Addr} {slv26 : Array (Option Value)} {ocv26 kVv26 dcv26 pmv26 cdv26 ctv26 : Value} {f__law_made_right : Addr} {odv27 anv27 : Option Addr} {slv27 : Array (Option Value)} {ocv27 kVv27 dcv27 pmv27 ctv27 : Value} {f__law_operations_right : Addr} {odv28 anv28 : Option Addr} {slv28 : Array (Option Value)} {ocv28 kVv28 dcv28 pmv28 ctv28 : Value} {f_law : Addr} {odv29 anv29 : Option Addr} {slv29 : Array (Option Value)} {ocv29 kVv29 dcv29 pmv29 ctv29 : Value} {cl1 Pt1 : Addr} {ddl1 : Option Addr} {vsl1 : Array Value} {sll1 : Array (Option Value)} {cl2 Pt2 : Addr} {ddl2 : Option Addr} {vsl2 : Array Value} {sll2 : Array (Option Value)} {cl3 Pt3 : Addr} {ddl3 : Option Addr} {vsl3 : Array Value} {sll3 : Array (Option Value)}
    (n_Blend : PySem.W.nsIn K mainGlobals "Blend" = some (some (.ref C)))
    (n_BitError : PySem.W.nsIn K mainGlobals "BitError" = some (some (.ref BE)))
    (n_LANES : PySem.W.nsIn K mainGlobals "LANES" = some (some (.ref aL)))
    (no_int : PySem.W.nsIn K mainGlobals "int" = some none)
    (no_len : PySem.W.nsIn K mainGlobals "len" = some none)
    (no_abs : PySem.W.nsIn K mainGlobals "abs" = some none)
    (no_list : PySem.W.nsIn K mainGlobals "list" = some none)
    (no_repr : PySem.W.nsIn K mainGlobals "repr" = some none)
    (no_range : PySem.W.nsIn K mainGlobals "range" = some none)
    (no_str : PySem.W.nsIn K mainGlobals "str" = some none)
    (no_isinstance : PySem.W.nsIn K mainGlobals "isinstance" = some none)
    (no_bool : PySem.W.nsIn K mainGlobals "bool" = some none)
    (no_tuple : PySem.W.nsIn K mainGlobals "tuple" = some none)
    (no_ValueError : PySem.W.nsIn K mainGlobals "ValueError" = some none)
    (no_super : PySem.W.nsIn K mainGlobals "super" = some none)
    (pg : PySem.W.plainGet K C Str.empty = true)
    (hd : PySem.W.hasDictIn K C = true)
    (po : PySem.W.plainOver K C = true)
    (fd_C_setattr : PySem.W.findIn K (.ref C) "__setattr__" = some (some (.builtin "object.__setattr__")))
    (fd_C_class : PySem.W.findIn K (.ref C) "__class__" = some (some (.builtin "object.__class__")))
    (isM : PySem.W.mroIn K C (.type "object") = some true)
    (fd_C_width : PySem.W.findIn K (.ref C) "width" = some none)
    (fd_C_shift : PySem.W.findIn K (.ref C) "shift" = some none)
    (fd_C_keep : PySem.W.findIn K (.ref C) "keep" = some none)
    (fd_C_flip : PySem.W.findIn K (.ref C) "flip" = some none)
    (isG : PySem.W.specialIn K (.builtin "object.__class__") "__get__" = some (some (.builtin "getset_descriptor.__get__")))
    (isT : PySem.W.takesIn K (.builtin "object.__class__") = some true)
    (mk : PySem.W.makesIn K C = true)
    (kc : PySem.W.keepIn K (.ref C) = true)
    (sf : PySem.W.selfFirst K C = true)
    (sTNoneType : PySem.W.subIn K (.type "NoneType") (.ref C) = some false)
    (sCNoneType : PySem.W.subIn K (.ref C) (.type "NoneType") = some false)
    (sTbool : PySem.W.subIn K (.type "bool") (.ref C) = some false)
    (sCbool : PySem.W.subIn K (.ref C) (.type "bool") = some false)
    (sTint : PySem.W.subIn K (.type "int") (.ref C) = some false)
    (sCint : PySem.W.subIn K (.ref C) (.type "int") = some false)
    (sTstr : PySem.W.subIn K (.type "str") (.ref C) = some false)
    (sCstr : PySem.W.subIn K (.ref C) (.type "str") = some false)
    (sTtuple : PySem.W.subIn K (.type "tuple") (.ref C) = some false)
    (sCtuple : PySem.W.subIn K (.ref C) (.type "tuple") = some false)
    (sTlist : PySem.W.subIn K (.type "list") (.ref C) = some false)
    (sClist : PySem.W.subIn K (.ref C) (.type "list") = some false)
    (sTdict : PySem.W.subIn K (.type "dict") (.ref C) = some false)
    (sCdict : PySem.W.subIn K (.ref C) (.type "dict") = some false)
    (sBB : PySem.W.subIn K (.ref BE) (.type "BaseException") = some true)
    (hBE : PySem.W.hasDictIn K BE = true)
    (tBE : PySem.W.typeIn K (.ref BE) = some (.type "type"))
    (lL : K.lookup aL = some ⟨.type "dict", none, .dict #[⟨hs1, .int 8 ku1, .ref t8⟩, ⟨hs2, .int 16 ku2, .ref t16⟩, ⟨hs3, .int 32 ku3, .ref t32⟩] nL, #[]⟩)
    (eh1 : hs1 = hashInt 8)
    (eh2 : hs2 = hashInt 16)
    (eh3 : hs3 = hashInt 32)
    (loL : (aL == sysModules) = false)
    (n_InvalidWidth : PySem.W.nsIn K mainGlobals "InvalidWidth" = some (some (.ref E0)))
    (n_InvalidLane : PySem.W.nsIn K mainGlobals "InvalidLane" = some (some (.ref E1)))
    (n_InvalidWord : PySem.W.nsIn K mainGlobals "InvalidWord" = some (some (.ref E2)))
    (n_InvalidShift : PySem.W.nsIn K mainGlobals "InvalidShift" = some (some (.ref E3)))
    (n_InvalidKind : PySem.W.nsIn K mainGlobals "InvalidKind" = some (some (.ref E4)))
    (n_InvalidLetters : PySem.W.nsIn K mainGlobals "InvalidLetters" = some (some (.ref E5)))
    (hD0 : PySem.W.hasDictIn K E0 = true)
    (ty0 : PySem.W.typeIn K (.ref E0) = some (.type "type"))
    (hD1 : PySem.W.hasDictIn K E1 = true)
    (ty1 : PySem.W.typeIn K (.ref E1) = some (.type "type"))
    (hD2 : PySem.W.hasDictIn K E2 = true)
    (ty2 : PySem.W.typeIn K (.ref E2) = some (.type "type"))
    (hD3 : PySem.W.hasDictIn K E3 = true)
    (ty3 : PySem.W.typeIn K (.ref E3) = some (.type "type"))
    (hD4 : PySem.W.hasDictIn K E4 = true)
    (ty4 : PySem.W.typeIn K (.ref E4) = some (.type "type"))
    (hD5 : PySem.W.hasDictIn K E5 = true)
    (ty5 : PySem.W.typeIn K (.ref E5) = some (.type "type"))
    (sE0 : PySem.W.subIn K (.ref E0) (.ref BE) = some true)
    (fd_E0_getattribute : PySem.W.findIn K (.ref E0) "__getattribute__" = some (some (.builtin "BaseException.__getattribute__")))
    (fd_E0_getattr : PySem.W.findIn K (.ref E0) "__getattr__" = some none)
    (sB0 : PySem.W.subIn K (.ref E0) (.type "BaseException") = some true)
    (fd_E0_class : PySem.W.findIn K (.ref E0) "__class__" = some (some (.builtin "object.__class__")))
    (mO0 : PySem.W.mroIn K E0 (.type "object") = some true)
    (fd_E0_value : PySem.W.findIn K (.ref E0) "value" = some none)
    (sV0 : PySem.W.subIn K (.ref E0) (.type "ValueError") = some true)
    (s01 : PySem.W.subIn K (.ref E0) (.ref E1) = some false)
    (ne01 : (Value.ref E0 == Value.ref E1) = false)
    (s02 : PySem.W.subIn K (.ref E0) (.ref E2) = some false)
    (ne02 : (Value.ref E0 == Value.ref E2) = false)
    (s03 : PySem.W.subIn K (.ref E0) (.ref E3) = some false)
    (ne03 : (Value.ref E0 == Value.ref E3) = false)
    (s04 : PySem.W.subIn K (.ref E0) (.ref E4) = some false)
    (ne04 : (Value.ref E0 == Value.ref E4) = false)
    (s05 : PySem.W.subIn K (.ref E0) (.ref E5) = some false)
    (ne05 : (Value.ref E0 == Value.ref E5) = false)
    (sE1 : PySem.W.subIn K (.ref E1) (.ref BE) = some true)
    (fd_E1_getattribute : PySem.W.findIn K (.ref E1) "__getattribute__" = some (some (.builtin "BaseException.__getattribute__")))
    (fd_E1_getattr : PySem.W.findIn K (.ref E1) "__getattr__" = some none)
    (sB1 : PySem.W.subIn K (.ref E1) (.type "BaseException") = some true)
    (fd_E1_class : PySem.W.findIn K (.ref E1) "__class__" = some (some (.builtin "object.__class__")))
    (mO1 : PySem.W.mroIn K E1 (.type "object") = some true)
    (fd_E1_value : PySem.W.findIn K (.ref E1) "value" = some none)
    (sV1 : PySem.W.subIn K (.ref E1) (.type "ValueError") = some true)
    (s10 : PySem.W.subIn K (.ref E1) (.ref E0) = some false)
    (ne10 : (Value.ref E1 == Value.ref E0) = false)
    (s12 : PySem.W.subIn K (.ref E1) (.ref E2) = some false)
    (ne12 : (Value.ref E1 == Value.ref E2) = false)
    (s13 : PySem.W.subIn K (.ref E1) (.ref E3) = some false)
    (ne13 : (Value.ref E1 == Value.ref E3) = false)
    (s14 : PySem.W.subIn K (.ref E1) (.ref E4) = some false)
    (ne14 : (Value.ref E1 == Value.ref E4) = false)
    (s15 : PySem.W.subIn K (.ref E1) (.ref E5) = some false)
    (ne15 : (Value.ref E1 == Value.ref E5) = false)
    (sE2 : PySem.W.subIn K (.ref E2) (.ref BE) = some true)
    (fd_E2_getattribute : PySem.W.findIn K (.ref E2) "__getattribute__" = some (some (.builtin "BaseException.__getattribute__")))
    (fd_E2_getattr : PySem.W.findIn K (.ref E2) "__getattr__" = some none)
    (sB2 : PySem.W.subIn K (.ref E2) (.type "BaseException") = some true)
    (fd_E2_class : PySem.W.findIn K (.ref E2) "__class__" = some (some (.builtin "object.__class__")))
    (mO2 : PySem.W.mroIn K E2 (.type "object") = some true)
    (fd_E2_value : PySem.W.findIn K (.ref E2) "value" = some none)
    (sV2 : PySem.W.subIn K (.ref E2) (.type "ValueError") = some true)
    (s20 : PySem.W.subIn K (.ref E2) (.ref E0) = some false)
    (ne20 : (Value.ref E2 == Value.ref E0) = false)
    (s21 : PySem.W.subIn K (.ref E2) (.ref E1) = some false)
    (ne21 : (Value.ref E2 == Value.ref E1) = false)
    (s23 : PySem.W.subIn K (.ref E2) (.ref E3) = some false)
    (ne23 : (Value.ref E2 == Value.ref E3) = false)
    (s24 : PySem.W.subIn K (.ref E2) (.ref E4) = some false)
    (ne24 : (Value.ref E2 == Value.ref E4) = false)
    (s25 : PySem.W.subIn K (.ref E2) (.ref E5) = some false)
    (ne25 : (Value.ref E2 == Value.ref E5) = false)
    (sE3 : PySem.W.subIn K (.ref E3) (.ref BE) = some true)
    (fd_E3_getattribute : PySem.W.findIn K (.ref E3) "__getattribute__" = some (some (.builtin "BaseException.__getattribute__")))
    (fd_E3_getattr : PySem.W.findIn K (.ref E3) "__getattr__" = some none)
    (sB3 : PySem.W.subIn K (.ref E3) (.type "BaseException") = some true)
    (fd_E3_class : PySem.W.findIn K (.ref E3) "__class__" = some (some (.builtin "object.__class__")))
    (mO3 : PySem.W.mroIn K E3 (.type "object") = some true)
    (fd_E3_value : PySem.W.findIn K (.ref E3) "value" = some none)
    (sV3 : PySem.W.subIn K (.ref E3) (.type "ValueError") = some true)
    (s30 : PySem.W.subIn K (.ref E3) (.ref E0) = some false)
    (ne30 : (Value.ref E3 == Value.ref E0) = false)
    (s31 : PySem.W.subIn K (.ref E3) (.ref E1) = some false)
    (ne31 : (Value.ref E3 == Value.ref E1) = false)
    (s32 : PySem.W.subIn K (.ref E3) (.ref E2) = some false)
    (ne32 : (Value.ref E3 == Value.ref E2) = false)
    (s34 : PySem.W.subIn K (.ref E3) (.ref E4) = some false)
    (ne34 : (Value.ref E3 == Value.ref E4) = false)
    (s35 : PySem.W.subIn K (.ref E3) (.ref E5) = some false)
    (ne35 : (Value.ref E3 == Value.ref E5) = false)
    (sE4 : PySem.W.subIn K (.ref E4) (.ref BE) = some true)
    (fd_E4_getattribute : PySem.W.findIn K (.ref E4) "__getattribute__" = some (some (.builtin "BaseException.__getattribute__")))
    (fd_E4_getattr : PySem.W.findIn K (.ref E4) "__getattr__" = some none)
    (sB4 : PySem.W.subIn K (.ref E4) (.type "BaseException") = some true)
    (fd_E4_class : PySem.W.findIn K (.ref E4) "__class__" = some (some (.builtin "object.__class__")))
    (mO4 : PySem.W.mroIn K E4 (.type "object") = some true)
    (fd_E4_value : PySem.W.findIn K (.ref E4) "value" = some none)
    (sV4 : PySem.W.subIn K (.ref E4) (.type "ValueError") = some true)
    (s40 : PySem.W.subIn K (.ref E4) (.ref E0) = some false)
    (ne40 : (Value.ref E4 == Value.ref E0) = false)
    (s41 : PySem.W.subIn K (.ref E4) (.ref E1) = some false)
    (ne41 : (Value.ref E4 == Value.ref E1) = false)
    (s42 : PySem.W.subIn K (.ref E4) (.ref E2) = some false)
    (ne42 : (Value.ref E4 == Value.ref E2) = false)
    (s43 : PySem.W.subIn K (.ref E4) (.ref E3) = some false)
    (ne43 : (Value.ref E4 == Value.ref E3) = false)
    (s45 : PySem.W.subIn K (.ref E4) (.ref E5) = some false)
    (ne45 : (Value.ref E4 == Value.ref E5) = false)
    (fBE : PySem.W.findIn K (.ref BE) "__init__" = some (some (.builtin "ValueError.__init__")))
    (cBE : PySem.W.clsIn K BE = some cdB)
    (opq : PySem.W.nsIn K cStatics "thirdparty.any" = some none)
    (topE : (l.prog.main.scope.names.lookup ("super" : Str)).isSome = false)
    (clE0 : K.lookup E0 = some (excClassObj nmE0 qE0 E0 NE0 bsE0 bmE0 true snE0 subE0 abE0 colE0 ddE0 j0_0 j1_0 j2_0 j3_0 j5_0 "ValueError.__new__"))
    (veE0 : PySem.HandSPX.refsVE bmE0 = true)
    (fd_E0_setattr : PySem.W.findIn K (.ref E0) "__setattr__" = some (some (.builtin "object.__setattr__")))
    (kE0 : PySem.W.keepIn K (.ref E0) = true)
    (iniE0 : PySem.W.findIn K (.ref E0) "__init__" = some (some (.ref fI0)))
    (fnE0 : PySem.W.typeIn K (.ref fI0) = some (.type "function"))
    (lE0 : K.lookup fI0 = some ⟨ocE0, odE0, .func (PySem.W.ksFn "__init__" "InvalidWidth.__init__" (defArgs s_InvalidWidth___init__) (defBody s_InvalidWidth___init__) (defScope s_InvalidWidth___init__) .none kVE0 dcE0 pmE0 anE0 (.ref cda0) ctE0 cc0), slE0⟩)
    (cE0 : PySem.W.codeIn K (.ref cda0) "InvalidWidth.__init__" = true)
    (lC0 : K.lookup cda0 = some ⟨ccl0, cdd0, .fields vsE0, ccs0⟩)
    (vE0 : vsE0[2]? = some (.str fileE0 tfE0))
    (fE0 : ((l.prog.main.file : Str) == fileE0) = true)
    (lcc0 : K.lookup cc0 = some ⟨ccv0, cld0, .cell (some (.ref E0)), csl0⟩)
    (mE0 : PySem.W.mroIn K E0 (.ref E0) = some true)
    (mBE0 : bmE0 = cdB.mro)
    (clE2 : K.lookup E2 = some (excClassObj nmE2 qE2 E2 NE2 bsE2 bmE2 true snE2 subE2 abE2 colE2 ddE2 j0_2 j1_2 j2_2 j3_2 j5_2 "ValueError.__new__"))
    (veE2 : PySem.HandSPX.refsVE bmE2 = true)
    (fd_E2_setattr : PySem.W.findIn K (.ref E2) "__setattr__" = some (some (.builtin "object.__setattr__")))
    (kE2 : PySem.W.keepIn K (.ref E2) = true)
    (iniE2 : PySem.W.findIn K (.ref E2) "__init__" = some (some (.ref fI2)))
    (fnE2 : PySem.W.typeIn K (.ref fI2) = some (.type "function"))
    (lE2 : K.lookup fI2 = some ⟨ocE2, odE2, .func (PySem.W.ksFn "__init__" "InvalidWord.__init__" (defArgs s_InvalidWord___init__) (defBody s_InvalidWord___init__) (defScope s_InvalidWord___init__) .none kVE2 dcE2 pmE2 anE2 (.ref cda2) ctE2 cc2), slE2⟩)
    (cE2 : PySem.W.codeIn K (.ref cda2) "InvalidWord.__init__" = true)
    (lC2 : K.lookup cda2 = some ⟨ccl2, cdd2, .fields vsE2, ccs2⟩)
    (vE2 : vsE2[2]? = some (.str fileE2 tfE2))
    (fE2 : ((l.prog.main.file : Str) == fileE2) = true)
    (lcc2 : K.lookup cc2 = some ⟨ccv2, cld2, .cell (some (.ref E2)), csl2⟩)
    (mE2 : PySem.W.mroIn K E2 (.ref E2) = some true)
    (mBE2 : bmE2 = cdB.mro)
    (clE3 : K.lookup E3 = some (excClassObj nmE3 qE3 E3 NE3 bsE3 bmE3 true snE3 subE3 abE3 colE3 ddE3 j0_3 j1_3 j2_3 j3_3 j5_3 "ValueError.__new__"))
    (veE3 : PySem.HandSPX.refsVE bmE3 = true)
    (fd_E3_setattr : PySem.W.findIn K (.ref E3) "__setattr__" = some (some (.builtin "object.__setattr__")))
    (kE3 : PySem.W.keepIn K (.ref E3) = true)
    (iniE3 : PySem.W.findIn K (.ref E3) "__init__" = some (some (.ref fI3)))
    (fnE3 : PySem.W.typeIn K (.ref fI3) = some (.type "function"))
    (lE3 : K.lookup fI3 = some ⟨ocE3, odE3, .func (PySem.W.ksFn "__init__" "InvalidShift.__init__" (defArgs s_InvalidShift___init__) (defBody s_InvalidShift___init__) (defScope s_InvalidShift___init__) .none kVE3 dcE3 pmE3 anE3 (.ref cda3) ctE3 cc3), slE3⟩)
    (cE3 : PySem.W.codeIn K (.ref cda3) "InvalidShift.__init__" = true)
    (lC3 : K.lookup cda3 = some ⟨ccl3, cdd3, .fields vsE3, ccs3⟩)
    (vE3 : vsE3[2]? = some (.str fileE3 tfE3))
    (fE3 : ((l.prog.main.file : Str) == fileE3) = true)
    (lcc3 : K.lookup cc3 = some ⟨ccv3, cld3, .cell (some (.ref E3)), csl3⟩)
    (mE3 : PySem.W.mroIn K E3 (.ref E3) = some true)
    (mBE3 : bmE3 = cdB.mro)
    (a_init : PySem.W.findIn K (.ref C) "__init__" = some (some (.ref fT)))
    (i_init : PySem.W.isFn K (.ref fT) = true)
    (l_init : K.lookup fT = some ⟨ocT, odT, .func (PySem.W.fnOf "__init__" "Blend.__init__" (defArgs s_Blend___init__) (defBody s_Blend___init__) (defScope s_Blend___init__) (.ref TD) kVT dcT pmT anT cdT ctT), slT⟩)
    (c_init : PySem.W.codeIn K cdT "Blend.__init__" = true)
    (k_init : PySem.W.keepIn K (.ref fT) = true)
    (lTD : K.lookup TD = some ⟨oT, dT, .seq #[.int 0 tu1, .none, .int 0 tu2] nT, sT⟩)
    (a_Blend___call__ : PySem.W.findIn K (.ref C) "__call__" = some (some (.ref m_Blend_call)))
    (i_Blend___call__ : PySem.W.isFn K (.ref m_Blend_call) = true)
    (l_Blend___call__ : K.lookup m_Blend_call = some ⟨ocv1, odv1, .func (PySem.W.fnOf "__call__" "Blend.__call__" (defArgs s_Blend___call__) (defBody s_Blend___call__) (defScope s_Blend___call__) .none kVv1 dcv1 pmv1 anv1 cdv1 ctv1), slv1⟩)
    (c_Blend___call__ : PySem.W.codeIn K cdv1 "Blend.__call__" = true)
    (k_Blend___call__ : PySem.W.keepIn K (.ref m_Blend_call) = true)
    (a_Blend___repr__ : PySem.W.findIn K (.ref C) "__repr__" = some (some (.ref m_Blend_repr)))
    (i_Blend___repr__ : PySem.W.isFn K (.ref m_Blend_repr) = true)
    (l_Blend___repr__ : K.lookup m_Blend_repr = some ⟨ocv2, odv2, .func (PySem.W.fnOf "__repr__" "Blend.__repr__" (defArgs s_Blend___repr__) (defBody s_Blend___repr__) (defScope s_Blend___repr__) .none kVv2 dcv2 pmv2 anv2 cdv2 ctv2), slv2⟩)
    (c_Blend___repr__ : PySem.W.codeIn K cdv2 "Blend.__repr__" = true)
    (k_Blend___repr__ : PySem.W.keepIn K (.ref m_Blend_repr) = true)
    (a_Blend___and__ : PySem.W.findIn K (.ref C) "__and__" = some (some (.ref m_Blend_and)))
    (i_Blend___and__ : PySem.W.isFn K (.ref m_Blend_and) = true)
    (l_Blend___and__ : K.lookup m_Blend_and = some ⟨ocv3, odv3, .func (PySem.W.fnOf "__and__" "Blend.__and__" (defArgs s_Blend___and__) (defBody s_Blend___and__) (defScope s_Blend___and__) .none kVv3 dcv3 pmv3 anv3 cdv3 ctv3), slv3⟩)
    (c_Blend___and__ : PySem.W.codeIn K cdv3 "Blend.__and__" = true)
    (k_Blend___and__ : PySem.W.keepIn K (.ref m_Blend_and) = true)
    (a_Blend___or__ : PySem.W.findIn K (.ref C) "__or__" = some (some (.ref m_Blend_or)))
    (i_Blend___or__ : PySem.W.isFn K (.ref m_Blend_or) = true)
    (l_Blend___or__ : K.lookup m_Blend_or = some ⟨ocv4, odv4, .func (PySem.W.fnOf "__or__" "Blend.__or__" (defArgs s_Blend___or__) (defBody s_Blend___or__) (defScope s_Blend___or__) .none kVv4 dcv4 pmv4 anv4 cdv4 ctv4), slv4⟩)
    (c_Blend___or__ : PySem.W.codeIn K cdv4 "Blend.__or__" = true)
    (k_Blend___or__ : PySem.W.keepIn K (.ref m_Blend_or) = true)
    (a_Blend___xor__ : PySem.W.findIn K (.ref C) "__xor__" = some (some (.ref m_Blend_xor)))
    (i_Blend___xor__ : PySem.W.isFn K (.ref m_Blend_xor) = true)
    (l_Blend___xor__ : K.lookup m_Blend_xor = some ⟨ocv5, odv5, .func (PySem.W.fnOf "__xor__" "Blend.__xor__" (defArgs s_Blend___xor__) (defBody s_Blend___xor__) (defScope s_Blend___xor__) .none kVv5 dcv5 pmv5 anv5 cdv5 ctv5), slv5⟩)
    (c_Blend___xor__ : PySem.W.codeIn K cdv5 "Blend.__xor__" = true)
    (k_Blend___xor__ : PySem.W.keepIn K (.ref m_Blend_xor) = true)
    (a_Blend___rand__ : PySem.W.findIn K (.ref C) "__rand__" = some (some (.ref m_Blend_rand)))
    (i_Blend___rand__ : PySem.W.isFn K (.ref m_Blend_rand) = true)
    (l_Blend___rand__ : K.lookup m_Blend_rand = some ⟨ocv6, odv6, .func (PySem.W.fnOf "__rand__" "Blend.__rand__" (defArgs s_Blend___rand__) (defBody s_Blend___rand__) (defScope s_Blend___rand__) .none kVv6 dcv6 pmv6 anv6 cdv6 ctv6), slv6⟩)
    (c_Blend___rand__ : PySem.W.codeIn K cdv6 "Blend.__rand__" = true)
    (k_Blend___rand__ : PySem.W.keepIn K (.ref m_Blend_rand) = true)
    (a_Blend___ror__ : PySem.W.findIn K (.ref C) "__ror__" = some (some (.ref m_Blend_ror)))
    (i_Blend___ror__ : PySem.W.isFn K (.ref m_Blend_ror) = true)
    (l_Blend___ror__ : K.lookup m_Blend_ror = some ⟨ocv7, odv7, .func (PySem.W.fnOf "__ror__" "Blend.__ror__" (defArgs s_Blend___ror__) (defBody s_Blend___ror__) (defScope s_Blend___ror__) .none kVv7 dcv7 pmv7 anv7 cdv7 ctv7), slv7⟩)
    (c_Blend___ror__ : PySem.W.codeIn K cdv7 "Blend.__ror__" = true)
    (k_Blend___ror__ : PySem.W.keepIn K (.ref m_Blend_ror) = true)
    (a_Blend___rxor__ : PySem.W.findIn K (.ref C) "__rxor__" = some (some (.ref m_Blend_rxor)))
    (i_Blend___rxor__ : PySem.W.isFn K (.ref m_Blend_rxor) = true)
    (l_Blend___rxor__ : K.lookup m_Blend_rxor = some ⟨ocv8, odv8, .func (PySem.W.fnOf "__rxor__" "Blend.__rxor__" (defArgs s_Blend___rxor__) (defBody s_Blend___rxor__) (defScope s_Blend___rxor__) .none kVv8 dcv8 pmv8 anv8 cdv8 ctv8), slv8⟩)
    (c_Blend___rxor__ : PySem.W.codeIn K cdv8 "Blend.__rxor__" = true)
    (k_Blend___rxor__ : PySem.W.keepIn K (.ref m_Blend_rxor) = true)
    (a_Blend___lshift__ : PySem.W.findIn K (.ref C) "__lshift__" = some (some (.ref m_Blend_lshift)))
    (i_Blend___lshift__ : PySem.W.isFn K (.ref m_Blend_lshift) = true)
    (l_Blend___lshift__ : K.lookup m_Blend_lshift = some ⟨ocv9, odv9, .func (PySem.W.fnOf "__lshift__" "Blend.__lshift__" (defArgs s_Blend___lshift__) (defBody s_Blend___lshift__) (defScope s_Blend___lshift__) .none kVv9 dcv9 pmv9 anv9 cdv9 ctv9), slv9⟩)
    (c_Blend___lshift__ : PySem.W.codeIn K cdv9 "Blend.__lshift__" = true)
    (k_Blend___lshift__ : PySem.W.keepIn K (.ref m_Blend_lshift) = true)
    (a_Blend___rshift__ : PySem.W.findIn K (.ref C) "__rshift__" = some (some (.ref m_Blend_rshift)))
    (i_Blend___rshift__ : PySem.W.isFn K (.ref m_Blend_rshift) = true)
    (l_Blend___rshift__ : K.lookup m_Blend_rshift = some ⟨ocv10, odv10, .func (PySem.W.fnOf "__rshift__" "Blend.__rshift__" (defArgs s_Blend___rshift__) (defBody s_Blend___rshift__) (defScope s_Blend___rshift__) .none kVv10 dcv10 pmv10 anv10 cdv10 ctv10), slv10⟩)
    (c_Blend___rshift__ : PySem.W.codeIn K cdv10 "Blend.__rshift__" = true)
    (k_Blend___rshift__ : PySem.W.keepIn K (.ref m_Blend_rshift) = true)
    (a_Blend_then : PySem.W.findIn K (.ref C) "then" = some (some (.ref m_Blend_then)))
    (i_Blend_then : PySem.W.isFn K (.ref m_Blend_then) = true)
    (l_Blend_then : K.lookup m_Blend_then = some ⟨ocv11, odv11, .func (PySem.W.fnOf "then" "Blend.then" (defArgs s_Blend_then) (defBody s_Blend_then) (defScope s_Blend_then) .none kVv11 dcv11 pmv11 anv11 cdv11 ctv11), slv11⟩)
    (c_Blend_then : PySem.W.codeIn K cdv11 "Blend.then" = true)
    (k_Blend_then : PySem.W.keepIn K (.ref m_Blend_then) = true)
    (fnC : PySem.W.fnIn K m_Blend_call = true)
    (rClshift : PySem.W.findIn K (.ref C) "__rlshift__" = some none)
    (rCrshift : PySem.W.findIn K (.ref C) "__rrshift__" = some none)
    (aCM : PySem.W.findIn K (.ref C) "constant" = some (some (.ref pCM)))
    (lCM : K.lookup pCM = some ⟨.type "classmethod", ddCM, .fields vsCM, ssCM⟩)
    (vCM : vsCM.toList = .ref gCM :: rsCM)
    (l_CM : K.lookup gCM = some ⟨ocv12, odv12, .func (PySem.W.fnOf "constant" "Blend.constant" (defArgs s_Blend_constant) (defBody s_Blend_constant) (defScope s_Blend_constant) .none kVv12 dcv12 pmv12 anv12 cdv12 ctv12), slv12⟩)
    (c_CM : PySem.W.codeIn K cdv12 "Blend.constant" = true)
    (k_CM : PySem.W.keepIn K (.ref gCM) = true)
    (spCM : PySem.W.specialIn K (.ref pCM) "__get__" = some (some (.builtin "classmethod.__get__")))
    (fnCM : PySem.W.fnIn K gCM = true)
    (rdC : PySem.W.readsIn K C (.type "type") = true)
    (gaC : PySem.W.specialIn K (.ref C) "__getattribute__" = some (some (.builtin "type.__getattribute__")))
    (fcC : PySem.W.findCls K (.ref C) (.type "type") "constant" = some (.get (.builtin "classmethod.__get__") (.ref pCM) .none (.ref C)))
    (n_is_int : PySem.W.nsIn K mainGlobals "is_int" = some (some (.ref f_is_int)))
    (l_is_int : K.lookup f_is_int = some ⟨ocv13, odv13, .func (PySem.W.fnOf "is_int" "is_int" (defArgs s_is_int) (defBody s_is_int) (defScope s_is_int) .none kVv13 dcv13 pmv13 anv13 cdv13 ctv13), slv13⟩)
    (c_is_int : PySem.W.codeIn K cdv13 "is_int" = true)
    (k_is_int : PySem.W.keepIn K (.ref f_is_int) = true)
    (n_is_width : PySem.W.nsIn K mainGlobals "is_width" = some (some (.ref f_is_width)))
    (l_is_width : K.lookup f_is_width = some ⟨ocv14, odv14, .func (PySem.W.fnOf "is_width" "is_width" (defArgs s_is_width) (defBody s_is_width) (defScope s_is_width) .none kVv14 dcv14 pmv14 anv14 cdv14 ctv14), slv14⟩)
    (c_is_width : PySem.W.codeIn K cdv14 "is_width" = true)
    (k_is_width : PySem.W.keepIn K (.ref f_is_width) = true)
    (n_full_word : PySem.W.nsIn K mainGlobals "full_word" = some (some (.ref f_full_word)))
    (l_full_word : K.lookup f_full_word = some ⟨ocv15, odv15, .func (PySem.W.fnOf "full_word" "full_word" (defArgs s_full_word) (defBody s_full_word) (defScope s_full_word) .none kVv15 dcv15 pmv15 anv15 cdv15 ctv15), slv15⟩)
    (c_full_word : PySem.W.codeIn K cdv15 "full_word" = true)
    (k_full_word : PySem.W.keepIn K (.ref f_full_word) = true)
    (n_is_word : PySem.W.nsIn K mainGlobals "is_word" = some (some (.ref f_is_word)))
    (l_is_word : K.lookup f_is_word = some ⟨ocv16, odv16, .func (PySem.W.fnOf "is_word" "is_word" (defArgs s_is_word) (defBody s_is_word) (defScope s_is_word) .none kVv16 dcv16 pmv16 anv16 cdv16 ctv16), slv16⟩)
    (c_is_word : PySem.W.codeIn K cdv16 "is_word" = true)
    (k_is_word : PySem.W.keepIn K (.ref f_is_word) = true)
    (n_shifted : PySem.W.nsIn K mainGlobals "shifted" = some (some (.ref f_shifted)))
    (l_shifted : K.lookup f_shifted = some ⟨ocv17, odv17, .func (PySem.W.fnOf "shifted" "shifted" (defArgs s_shifted) (defBody s_shifted) (defScope s_shifted) .none kVv17 dcv17 pmv17 anv17 cdv17 ctv17), slv17⟩)
    (c_shifted : PySem.W.codeIn K cdv17 "shifted" = true)
    (k_shifted : PySem.W.keepIn K (.ref f_shifted) = true)
    (n_check_word : PySem.W.nsIn K mainGlobals "check_word" = some (some (.ref f_check_word)))
    (l_check_word : K.lookup f_check_word = some ⟨ocv18, odv18, .func (PySem.W.fnOf "check_word" "check_word" (defArgs s_check_word) (defBody s_check_word) (defScope s_check_word) .none kVv18 dcv18 pmv18 anv18 cdv18 ctv18), slv18⟩)
    (c_check_word : PySem.W.codeIn K cdv18 "check_word" = true)
    (k_check_word : PySem.W.keepIn K (.ref f_check_word) = true)
    (n_check_shift : PySem.W.nsIn K mainGlobals "check_shift" = some (some (.ref f_check_shift)))
    (l_check_shift : K.lookup f_check_shift = some ⟨ocv19, odv19, .func (PySem.W.fnOf "check_shift" "check_shift" (defArgs s_check_shift) (defBody s_check_shift) (defScope s_check_shift) .none kVv19 dcv19 pmv19 anv19 cdv19 ctv19), slv19⟩)
    (c_check_shift : PySem.W.codeIn K cdv19 "check_shift" = true)
    (k_check_shift : PySem.W.keepIn K (.ref f_check_shift) = true)
    (n__law_pen : PySem.W.nsIn K mainGlobals "_law_pen" = some (some (.ref f__law_pen)))
    (l__law_pen : K.lookup f__law_pen = some ⟨ocv20, odv20, .func (PySem.W.fnOf "_law_pen" "_law_pen" (defArgs s__law_pen) (defBody s__law_pen) (defScope s__law_pen) .none kVv20 dcv20 pmv20 anv20 cdv20 ctv20), slv20⟩)
    (c__law_pen : PySem.W.codeIn K cdv20 "_law_pen" = true)
    (k__law_pen : PySem.W.keepIn K (.ref f__law_pen) = true)
    (n__law_draw : PySem.W.nsIn K mainGlobals "_law_draw" = some (some (.ref f__law_draw)))
    (l__law_draw : K.lookup f__law_draw = some ⟨ocv21, odv21, .func (PySem.W.fnOf "_law_draw" "_law_draw" (defArgs s__law_draw) (defBody s__law_draw) (defScope s__law_draw) .none kVv21 dcv21 pmv21 anv21 cdv21 ctv21), slv21⟩)
    (c__law_draw : PySem.W.codeIn K cdv21 "_law_draw" = true)
    (k__law_draw : PySem.W.keepIn K (.ref f__law_draw) = true)
    (n__law_word : PySem.W.nsIn K mainGlobals "_law_word" = some (some (.ref f__law_word)))
    (l__law_word : K.lookup f__law_word = some ⟨ocv22, odv22, .func (PySem.W.fnOf "_law_word" "_law_word" (defArgs s__law_word) (defBody s__law_word) (defScope s__law_word) .none kVv22 dcv22 pmv22 anv22 cdv22 ctv22), slv22⟩)
    (c__law_word : PySem.W.codeIn K cdv22 "_law_word" = true)
    (k__law_word : PySem.W.keepIn K (.ref f__law_word) = true)
    (n__law_heard : PySem.W.nsIn K mainGlobals "_law_heard" = some (some (.ref f__law_heard)))
    (l__law_heard : K.lookup f__law_heard = some ⟨ocv23, odv23, .func (PySem.W.fnOf "_law_heard" "_law_heard" (defArgs s__law_heard) (defBody s__law_heard) (defScope s__law_heard) .none kVv23 dcv23 pmv23 anv23 cdv23 ctv23), slv23⟩)
    (c__law_heard : PySem.W.codeIn K cdv23 "_law_heard" = true)
    (k__law_heard : PySem.W.keepIn K (.ref f__law_heard) = true)
    (n__law_odd : PySem.W.nsIn K mainGlobals "_law_odd" = some (some (.ref f__law_odd)))
    (l__law_odd : K.lookup f__law_odd = some ⟨ocv24, odv24, .func (PySem.W.fnOf "_law_odd" "_law_odd" (defArgs s__law_odd) (defBody s__law_odd) (defScope s__law_odd) .none kVv24 dcv24 pmv24 anv24 cdv24 ctv24), slv24⟩)
    (c__law_odd : PySem.W.codeIn K cdv24 "_law_odd" = true)
    (k__law_odd : PySem.W.keepIn K (.ref f__law_odd) = true)
    (n__law_whole : PySem.W.nsIn K mainGlobals "_law_whole" = some (some (.ref f__law_whole)))
    (l__law_whole : K.lookup f__law_whole = some ⟨ocv25, odv25, .func (PySem.W.fnOf "_law_whole" "_law_whole" (defArgs s__law_whole) (defBody s__law_whole) (defScope s__law_whole) .none kVv25 dcv25 pmv25 anv25 cdv25 ctv25), slv25⟩)
    (c__law_whole : PySem.W.codeIn K cdv25 "_law_whole" = true)
    (k__law_whole : PySem.W.keepIn K (.ref f__law_whole) = true)
    (n__law_due : PySem.W.nsIn K mainGlobals "_law_due" = some (some (.ref f__law_due)))
    (l__law_due : K.lookup f__law_due = some ⟨ocv26, odv26, .func (PySem.W.fnOf "_law_due" "_law_due" (defArgs s__law_due) (defBody s__law_due) (defScope s__law_due) .none kVv26 dcv26 pmv26 anv26 cdv26 ctv26), slv26⟩)
    (c__law_due : PySem.W.codeIn K cdv26 "_law_due" = true)
    (k__law_due : PySem.W.keepIn K (.ref f__law_due) = true)
    (n__law_made_right : PySem.W.nsIn K mainGlobals "_law_made_right" = some (some (.ref f__law_made_right)))
    (l__law_made_right : K.lookup f__law_made_right = some ⟨ocv27, odv27, .func (PySem.W.fnOf "_law_made_right" "_law_made_right" (defArgs s__law_made_right) (defBody s__law_made_right) (defScope s__law_made_right) .none kVv27 dcv27 pmv27 anv27 (.ref cl1) ctv27), slv27⟩)
    (c__law_made_right : PySem.W.codeIn K (.ref cl1) "_law_made_right" = true)
    (k__law_made_right : PySem.W.keepIn K (.ref f__law_made_right) = true)
    (n__law_operations_right : PySem.W.nsIn K mainGlobals "_law_operations_right" = some (some (.ref f__law_operations_right)))
    (l__law_operations_right : K.lookup f__law_operations_right = some ⟨ocv28, odv28, .func (PySem.W.fnOf "_law_operations_right" "_law_operations_right" (defArgs s__law_operations_right) (defBody s__law_operations_right) (defScope s__law_operations_right) .none kVv28 dcv28 pmv28 anv28 (.ref cl2) ctv28), slv28⟩)
    (c__law_operations_right : PySem.W.codeIn K (.ref cl2) "_law_operations_right" = true)
    (k__law_operations_right : PySem.W.keepIn K (.ref f__law_operations_right) = true)
    (n_law : PySem.W.nsIn K mainGlobals "law" = some (some (.ref f_law)))
    (l_law : K.lookup f_law = some ⟨ocv29, odv29, .func (PySem.W.fnOf "law" "law" (defArgs s_law) (defBody s_law) (defScope s_law) .none kVv29 dcv29 pmv29 anv29 (.ref cl3) ctv29), slv29⟩)
    (c_law : PySem.W.codeIn K (.ref cl3) "law" = true)
    (k_law : PySem.W.keepIn K (.ref f_law) = true)
    (lcl1 : K.lookup cl1 = some ⟨.type "code", ddl1, .fields vsl1, sll1⟩)
    (v11_1 : vsl1[11]? = some (.ref Pt1))
    (hdl1 : PySem.W.codeHdIn K cl1 Pt1 = true)
    (nPt1 : K.lookup Pt1 = none)
    (lcl2 : K.lookup cl2 = some ⟨.type "code", ddl2, .fields vsl2, sll2⟩)
    (v11_2 : vsl2[11]? = some (.ref Pt2))
    (hdl2 : PySem.W.codeHdIn K cl2 Pt2 = true)
    (nPt2 : K.lookup Pt2 = none)
    (lcl3 : K.lookup cl3 = some ⟨.type "code", ddl3, .fields vsl3, sll3⟩)
    (v11_3 : vsl3[11]? = some (.ref Pt3))
    (hdl3 : PySem.W.codeHdIn K cl3 Pt3 = true)
    (nPt3 : K.lookup Pt3 = none)
    (nePt12 : (Pt1 == Pt2) = false)
    (nePt13 : (Pt1 == Pt3) = false)
    (nePt23 : (Pt2 == Pt3) = false) :
    ∃ (fd : FuncData) (cs : List (Addr × Addr)) (sp : Sp), (∀ p ∈ cs, h.get? p.2 = some { cls := .none, data := .fields #[] }) ∧ (∀ p ∈ cs, K.lookup p.2 = none) ∧ (∀ p ∈ cs, PySem.W.CodeHd h p.1 p.2) ∧ (∀ (s : Shared) (v : Value), BindsTo s fd ⟨[v], []⟩ [("_law_script", v)]) ∧
      (∀ (H : Hp) (a : Addr) (ns : List Int), ns.length ≤ 63 → (∀ z ∈ ns, Builtin.Int.intBits z ≤ 1048576) → (∀ p ∈ cs, H p.2 = some (.tbl #[])) → SqL K H a (ns.map V.int) → sp [.ref a] H (fun v _ => v = .bl true) fun _ _ _ => False) ∧
      ∀ base : Heap, K.In base → base.Ns mainGlobals mg → (∀ p ∈ cs, LamX.TabB base mg p.1 p.2) → Gd l.prog w K mg base CX0 13 fa fd ["_law_script"] sp := by
  have e := hfa.symm.trans (PySem.W.mg_of X G n_law)
  cases e
  have h12 : Pt1 ≠ Pt2 := fun z => by rw [z] at nePt12; simp at nePt12
  have h13 : Pt1 ≠ Pt3 := fun z => by rw [z] at nePt13; simp at nePt13
  have h23 : Pt2 ≠ Pt3 := fun z => by rw [z] at nePt23; simp at nePt23
  have B : B1 mg := ⟨PySem.W.mg_none_of X G no_int, PySem.W.mg_none_of X G no_len, PySem.W.mg_none_of X G no_abs, PySem.W.mg_none_of X G no_list, PySem.W.mg_none_of X G no_repr, PySem.W.mg_none_of X G no_range, PySem.W.mg_none_of X G no_str, PySem.W.mg_none_of X G no_isinstance, PySem.W.mg_none_of X G no_bool, PySem.W.mg_none_of X G no_tuple⟩
  let tl : Int → Addr := fun w => if w = 8 then t8 else if w = 16 then t16 else t32
  have T : T1 K w mg C aL aL tl := {
    g_Blend := PySem.W.mg_of X G n_Blend
    g_LANES := PySem.W.mg_of X G n_LANES
    kid := ⟨loL, [⟨hs1, .int 8 ku1, .ref t8⟩, ⟨hs2, .int 16 ku2, .ref t16⟩, ⟨hs3, .int 32 ku3, .ref t32⟩], nL, lL, .cons ⟨_, rfl⟩ eh1 rfl (.cons ⟨_, rfl⟩ eh2 rfl (.cons ⟨_, rfl⟩ eh3 rfl .nil))⟩
    cl := ⟨pg, hd, po, fd_C_setattr⟩
    nW := fd_C_width
    nS := fd_C_shift
    nK := fd_C_keep
    nF := fd_C_flip
    isC := fd_C_class
    isG := isG
    isT := isT
    isM := isM }
  let ce : Nat → Addr := fun i => match i with | 0 => E0 | 1 => E1 | 2 => E2 | 3 => E3 | 4 => E4 | _ => E5
  have ER : Er K mg BE ce := {
    g_BitError := PySem.W.mg_of X G n_BitError
    g_ValueError := PySem.W.mg_none_of X G no_ValueError
    g_isinstance := PySem.W.mg_none_of X G no_isinstance
    g_repr := PySem.W.mg_none_of X G no_repr
    g_ce := fun i hi => match i, hi with | 0, _ => PySem.W.mg_of X G n_InvalidWidth | 1, _ => PySem.W.mg_of X G n_InvalidLane | 2, _ => PySem.W.mg_of X G n_InvalidWord | 3, _ => PySem.W.mg_of X G n_InvalidShift | 4, _ => PySem.W.mg_of X G n_InvalidKind | 5, _ => PySem.W.mg_of X G n_InvalidLetters
    exm := fun i hi => match i, hi with | 0, _ => PySem.W.exm_ref sBB hBE tBE sE0 | 1, _ => PySem.W.exm_ref sBB hBE tBE sE1 | 2, _ => PySem.W.exm_ref sBB hBE tBE sE2 | 3, _ => PySem.W.exm_ref sBB hBE tBE sE3 | 4, _ => PySem.W.exm_ref sBB hBE tBE sE4
    ec := fun i hi => match i, hi with | 0, _ => ⟨fd_E0_getattribute, fd_E0_getattr, sB0, hD0, fd_E0_class, isG, isT, mO0⟩ | 1, _ => ⟨fd_E1_getattribute, fd_E1_getattr, sB1, hD1, fd_E1_class, isG, isT, mO1⟩ | 2, _ => ⟨fd_E2_getattribute, fd_E2_getattr, sB2, hD2, fd_E2_class, isG, isT, mO2⟩ | 3, _ => ⟨fd_E3_getattribute, fd_E3_getattr, sB3, hD3, fd_E3_class, isG, isT, mO3⟩ | 4, _ => ⟨fd_E4_getattribute, fd_E4_getattr, sB4, hD4, fd_E4_class, isG, isT, mO4⟩
    xf := fun i hi => match i, hi with | 0, _ => ⟨fd_E0_getattribute, fd_E0_getattr, sB0, hD0⟩ | 1, _ => ⟨fd_E1_getattribute, fd_E1_getattr, sB1, hD1⟩ | 2, _ => ⟨fd_E2_getattribute, fd_E2_getattr, sB2, hD2⟩ | 3, _ => ⟨fd_E3_getattribute, fd_E3_getattr, sB3, hD3⟩ | 4, _ => ⟨fd_E4_getattribute, fd_E4_getattr, sB4, hD4⟩
    nv := fun i hi => match i, hi with | 0, _ => fd_E0_value | 1, _ => fd_E1_value | 2, _ => fd_E2_value | 3, _ => fd_E3_value | 4, _ => fd_E4_value
    kit := fun i j hi hj => match i, j, hi, hj with | 0, 0, _, _ => kit_same | 0, 1, _, _ => kit_own hD1 ty1 ne01 s01 | 0, 2, _, _ => kit_own hD2 ty2 ne02 s02 | 0, 3, _, _ => kit_own hD3 ty3 ne03 s03 | 0, 4, _, _ => kit_own hD4 ty4 ne04 s04 | 0, 5, _, _ => kit_own hD5 ty5 ne05 s05 | 1, 0, _, _ => kit_own hD0 ty0 ne10 s10 | 1, 1, _, _ => kit_same | 1, 2, _, _ => kit_own hD2 ty2 ne12 s12 | 1, 3, _, _ => kit_own hD3 ty3 ne13 s13 | 1, 4, _, _ => kit_own hD4 ty4 ne14 s14 | 1, 5, _, _ => kit_own hD5 ty5 ne15 s15 | 2, 0, _, _ => kit_own hD0 ty0 ne20 s20 | 2, 1, _, _ => kit_own hD1 ty1 ne21 s21 | 2, 2, _, _ => kit_same | 2, 3, _, _ => kit_own hD3 ty3 ne23 s23 | 2, 4, _, _ => kit_own hD4 ty4 ne24 s24 | 2, 5, _, _ => kit_own hD5 ty5 ne25 s25 | 3, 0, _, _ => kit_own hD0 ty0 ne30 s30 | 3, 1, _, _ => kit_own hD1 ty1 ne31 s31 | 3, 2, _, _ => kit_own hD2 ty2 ne32 s32 | 3, 3, _, _ => kit_same | 3, 4, _, _ => kit_own hD4 ty4 ne34 s34 | 3, 5, _, _ => kit_own hD5 ty5 ne35 s35 | 4, 0, _, _ => kit_own hD0 ty0 ne40 s40 | 4, 1, _, _ => kit_own hD1 ty1 ne41 s41 | 4, 2, _, _ => kit_own hD2 ty2 ne42 s42 | 4, 3, _, _ => kit_own hD3 ty3 ne43 s43 | 4, 4, _, _ => kit_same | 4, 5, _, _ => kit_own hD5 ty5 ne45 s45
    ve := fun i hi => match i, hi with | 0, _ => kit_ve sV0 | 1, _ => kit_ve sV1 | 2, _ => kit_ve sV2 | 3, _ => kit_ve sV3 | 4, _ => kit_ve sV4 }
  have TE0 : ErrC l.prog K E0 fI0 "InvalidWidth.__init__" "value" "value" (defArgs s_InvalidWidth___init__) (defBody s_InvalidWidth___init__) (defScope s_InvalidWidth___init__) := {
    cls := ⟨⟨_, _, _, _, _, _, _, _, _, _, _, _, _, _, _, clE0, veE0⟩, fd_E0_setattr, sB0, ty0, kE0⟩
    ini := iniE0
    fn := fnE0
    fun_ := ⟨_, _, _, _, _, _, _, _, _, _, _, _, _, _, _, _, _, _, _, lE0, cE0, lC0, vE0, fE0, lcc0⟩
    self_ := mE0
    up := sup_up clE0 cBE mBE0 fBE
    sub := sV0
    opq := opq
    nosup := no_super
    top := topE
    nofld := fd_E0_value }
  have TE2 : ErrC l.prog K E2 fI2 "InvalidWord.__init__" "value" "value" (defArgs s_InvalidWord___init__) (defBody s_InvalidWord___init__) (defScope s_InvalidWord___init__) := {
    cls := ⟨⟨_, _, _, _, _, _, _, _, _, _, _, _, _, _, _, clE2, veE2⟩, fd_E2_setattr, sB2, ty2, kE2⟩
    ini := iniE2
    fn := fnE2
    fun_ := ⟨_, _, _, _, _, _, _, _, _, _, _, _, _, _, _, _, _, _, _, lE2, cE2, lC2, vE2, fE2, lcc2⟩
    self_ := mE2
    up := sup_up clE2 cBE mBE2 fBE
    sub := sV2
    opq := opq
    nosup := no_super
    top := topE
    nofld := fd_E2_value }
  have TE3 : ErrC l.prog K E3 fI3 "InvalidShift.__init__" "value" "value" (defArgs s_InvalidShift___init__) (defBody s_InvalidShift___init__) (defScope s_InvalidShift___init__) := {
    cls := ⟨⟨_, _, _, _, _, _, _, _, _, _, _, _, _, _, _, clE3, veE3⟩, fd_E3_setattr, sB3, ty3, kE3⟩
    ini := iniE3
    fn := fnE3
    fun_ := ⟨_, _, _, _, _, _, _, _, _, _, _, _, _, _, _, _, _, _, _, lE3, cE3, lC3, vE3, fE3, lcc3⟩
    self_ := mE3
    up := sup_up clE3 cBE mBE3 fBE
    sub := sV3
    opq := opq
    nosup := no_super
    top := topE
    nofld := fd_E3_value }
  obtain ⟨tab1, code1⟩ := tab0 X tabs hr1 (PySem.W.mg_of X G n__law_made_right) l__law_made_right rfl hdl1
  obtain ⟨tab2, code2⟩ := tab0 X tabs hr2 (PySem.W.mg_of X G n__law_operations_right) l__law_operations_right rfl hdl2
  obtain ⟨tab3, code3⟩ := tab0 X tabs hr3 (PySem.W.mg_of X G n_law) l_law rfl hdl3
  refine ⟨PySem.W.fnOf "law" "law" (defArgs s_law) (defBody s_law) (defScope s_law) .none kVv29 dcv29 pmv29 anv29 (.ref cl3) ctv29, [(cl1, Pt1), (cl2, Pt2), (cl3, Pt3)], spLaw K Pt1 Pt2 Pt3, fun p hp => ?_, fun p hp => ?_, fun p hp => ?_, fun s v => .of_eq rfl, fun H a ns hl _ hT hS => ⟨a, ns, rfl, hS, hl, hT (cl1, Pt1) List.mem_cons_self, hT (cl2, Pt2) (List.mem_cons_of_mem _ List.mem_cons_self), hT (cl3, Pt3) (List.mem_cons_of_mem _ (List.mem_cons_of_mem _ List.mem_cons_self)), fun _ => rfl⟩, fun base _ _ TB => ?_⟩
  · simp only [List.mem_cons, List.not_mem_nil, or_false] at hp
    rcases hp with z | z | z <;> rw [z]
    · exact tab1
    · exact tab2
    · exact tab3
  · simp only [List.mem_cons, List.not_mem_nil, or_false] at hp
    rcases hp with z | z | z <;> rw [z]
    · exact nPt1
    · exact nPt2
    · exact nPt3
  · simp only [List.mem_cons, List.not_mem_nil, or_false] at hp
    rcases hp with z | z | z <;> rw [z]
    · exact code1
    · exact code2
    · exact code3
  have Dis_int := defAt_of X G n_is_int l_is_int c_is_int k_is_int bd_is_int
  have Dis_width := defAt_of X G n_is_width l_is_width c_is_width k_is_width bd_is_width
  have Dfull_word := defAt_of X G n_full_word l_full_word c_full_word k_full_word bd_full_word
  have Dis_word := defAt_of X G n_is_word l_is_word c_is_word k_is_word bd_is_word
  have Dshifted := defAt_of X G n_shifted l_shifted c_shifted k_shifted bd_shifted
  have Dcheck_word := defAt_of X G n_check_word l_check_word c_check_word k_check_word bd_check_word
  have Dcheck_shift := defAt_of X G n_check_shift l_check_shift c_check_shift k_check_shift bd_check_shift
  have D_law_pen := defAt_of X G n__law_pen l__law_pen c__law_pen k__law_pen bd__law_pen
  have D_law_draw := defAt_of X G n__law_draw l__law_draw c__law_draw k__law_draw bd__law_draw
  have D_law_word := defAt_of X G n__law_word l__law_word c__law_word k__law_word bd__law_word
  have D_law_heard := defAt_of X G n__law_heard l__law_heard c__law_heard k__law_heard bd__law_heard
  have D_law_odd := defAt_of X G n__law_odd l__law_odd c__law_odd k__law_odd bd__law_odd
  have D_law_whole := defAt_of X G n__law_whole l__law_whole c__law_whole k__law_whole bd__law_whole
  have D_law_due := defAt_of X G n__law_due l__law_due c__law_due k__law_due bd__law_due
  have D_law_made_right := defAt_of X G n__law_made_right l__law_made_right c__law_made_right k__law_made_right bd__law_made_right
  have D_law_operations_right := defAt_of X G n__law_operations_right l__law_operations_right c__law_operations_right k__law_operations_right bd__law_operations_right
  have M_call := metAt_of a_Blend___call__ i_Blend___call__ l_Blend___call__ c_Blend___call__ k_Blend___call__ bd_Blend___call__
  have M_repr := metAt_of a_Blend___repr__ i_Blend___repr__ l_Blend___repr__ c_Blend___repr__ k_Blend___repr__ bd_Blend___repr__
  have M_and := metAt_of a_Blend___and__ i_Blend___and__ l_Blend___and__ c_Blend___and__ k_Blend___and__ bd_Blend___and__
  have M_or := metAt_of a_Blend___or__ i_Blend___or__ l_Blend___or__ c_Blend___or__ k_Blend___or__ bd_Blend___or__
  have M_xor := metAt_of a_Blend___xor__ i_Blend___xor__ l_Blend___xor__ c_Blend___xor__ k_Blend___xor__ bd_Blend___xor__
  have M_rand := metAt_of a_Blend___rand__ i_Blend___rand__ l_Blend___rand__ c_Blend___rand__ k_Blend___rand__ bd_Blend___rand__
  have M_ror := metAt_of a_Blend___ror__ i_Blend___ror__ l_Blend___ror__ c_Blend___ror__ k_Blend___ror__ bd_Blend___ror__
  have M_rxor := metAt_of a_Blend___rxor__ i_Blend___rxor__ l_Blend___rxor__ c_Blend___rxor__ k_Blend___rxor__ bd_Blend___rxor__
  have M_lshift := metAt_of a_Blend___lshift__ i_Blend___lshift__ l_Blend___lshift__ c_Blend___lshift__ k_Blend___lshift__ bd_Blend___lshift__
  have M_rshift := metAt_of a_Blend___rshift__ i_Blend___rshift__ l_Blend___rshift__ c_Blend___rshift__ k_Blend___rshift__ bd_Blend___rshift__
  have M_then := metAt_of a_Blend_then i_Blend_then l_Blend_then c_Blend_then k_Blend_then bd_Blend_then
  have FI : FunD K "__init__" "Blend.__init__" (defArgs s_Blend___init__) (defBody s_Blend___init__) (defScope s_Blend___init__) [.int 0, .non, .int 0] [] fT _ :=
    ⟨⟨_, _, _, _, _, _, _, _, _, _, rfl, l_init, c_init, .inr ⟨by simp, TD, _, [.int 0 tu1, .none, .int 0 tu2], nT, rfl, lTD, rfl, .cons ⟨_, rfl⟩ (.cons rfl (.cons ⟨_, rfl⟩ .nil))⟩, .inl rfl⟩, k_init⟩
  obtain ⟨⟨d2, v2, b2⟩, ⟨d3, v3, b3⟩, b5⟩ := bind_blend FI
  have g0 := PySem.W.mg_of X G n_InvalidWidth
  have g2 := PySem.W.mg_of X G n_InvalidWord
  have g3 := PySem.W.mg_of X G n_InvalidShift
  have cInt := ok_is_int (P := l.prog) (w := w) (base := base) Dis_int B
  have cWd := ok_is_width (P := l.prog) (w := w) (base := base) Dis_width T cInt
  have cFw := ok_full_word (P := l.prog) (w := w) (base := base) Dfull_word
  have cIw := ok_is_word (P := l.prog) (w := w) (base := base) Dis_word cInt cFw
  have cCw := ok_check_word (P := l.prog) (w := w) (base := base) (c2 := ce 2) Dcheck_word g2 TE2 errX2 cIw
  have cCs := ok_check_shift (P := l.prog) (w := w) (base := base) (c3 := ce 3) Dcheck_shift g3 TE3 errX3 cInt
  have cSh := ok_shifted (P := l.prog) (w := w) (base := base) Dshifted cFw
  have GI := ok_BI (P := l.prog) (w := w) (base := base) (ce := ce) FI T g0 TE0 errX0 cWd cCs cFw cCw cSh
  have MK : Mk K C fT := ⟨mk, a_init, i_init, kc⟩
  obtain ⟨fdc, xc, Fc, bc, Gc⟩ := ok_call (P := l.prog) (w := w) (base := base) M_call T cCw cSh
  obtain ⟨fdr, xr, Fr, br, Gr⟩ := ok_RP (P := l.prog) (w := w) (base := base) M_repr T
  obtain ⟨f1, x1, F1, b1, G1⟩ := ok_and (P := l.prog) (w := w) (base := base) M_and T MK GI b5 cCw cFw
  obtain ⟨f2, x2, F2, b2', G2⟩ := ok_or (P := l.prog) (w := w) (base := base) M_or T MK GI b5 cCw cFw
  obtain ⟨f3, x3, F3, b3', G3⟩ := ok_xor (P := l.prog) (w := w) (base := base) M_xor T MK GI b5 cCw cFw
  have sT : ∀ T ∈ tyNames, PySem.W.subIn K (.type T) (.ref C) = some false := fun T hT => by
    simp only [tyNames, List.mem_cons, List.not_mem_nil, or_false] at hT
    rcases hT with rfl | rfl | rfl | rfl | rfl | rfl | rfl
    · exact sTNoneType
    · exact sTbool
    · exact sTint
    · exact sTstr
    · exact sTtuple
    · exact sTlist
    · exact sTdict
  have sC : ∀ T ∈ tyNames, PySem.W.subIn K (.ref C) (.type T) = some false := fun T hT => by
    simp only [tyNames, List.mem_cons, List.not_mem_nil, or_false] at hT
    rcases hT with rfl | rfl | rfl | rfl | rfl | rfl | rfl
    · exact sCNoneType
    · exact sCbool
    · exact sCint
    · exact sCstr
    · exact sCtuple
    · exact sClist
    · exact sCdict
  have oA : OpD K C m_Blend_and .BitAnd := ⟨sf, a_Blend___and__, i_Blend___and__, ⟨_, a_Blend___rand__, .inr ⟨_, rfl⟩⟩, sT, .inl rfl⟩
  have oO : OpD K C m_Blend_or .BitOr := ⟨sf, a_Blend___or__, i_Blend___or__, ⟨_, a_Blend___ror__, .inr ⟨_, rfl⟩⟩, sT, .inr (.inl rfl)⟩
  have oX : OpD K C m_Blend_xor .BitXor := ⟨sf, a_Blend___xor__, i_Blend___xor__, ⟨_, a_Blend___rxor__, .inr ⟨_, rfl⟩⟩, sT, .inr (.inr (.inl rfl))⟩
  have oL : OpD K C m_Blend_lshift .LShift := ⟨sf, a_Blend___lshift__, i_Blend___lshift__, ⟨_, rClshift, .inl rfl⟩, sT, .inr (.inr (.inr (.inl rfl)))⟩
  have oS : OpD K C m_Blend_rshift .RShift := ⟨sf, a_Blend___rshift__, i_Blend___rshift__, ⟨_, rCrshift, .inl rfl⟩, sT, .inr (.inr (.inr (.inr rfl)))⟩
  have kA : BackD K C m_Blend_and m_Blend_rand .BitAnd := ⟨sf, a_Blend___and__, a_Blend___rand__, i_Blend___rand__, sC, .inl rfl, nayD_and⟩
  have kO : BackD K C m_Blend_or m_Blend_ror .BitOr := ⟨sf, a_Blend___or__, a_Blend___ror__, i_Blend___ror__, sC, .inr (.inl rfl), nayD_bor sCdict⟩
  have kX : BackD K C m_Blend_xor m_Blend_rxor .BitXor := ⟨sf, a_Blend___xor__, a_Blend___rxor__, i_Blend___rxor__, sC, .inr (.inr (.inl rfl)), nayD_xor⟩
  obtain ⟨f4, x4, F4, b4, G4⟩ := ok_rand (P := l.prog) (w := w) (base := base) M_rand oA G1 b1
  obtain ⟨f5, x5, F5, b5', G5⟩ := ok_ror (P := l.prog) (w := w) (base := base) M_ror oO G2 b2'
  obtain ⟨f6, x6, F6, b6, G6⟩ := ok_rxor (P := l.prog) (w := w) (base := base) M_rxor oX G3 b3'
  obtain ⟨f8, x8, F8, b8, G8⟩ := ok_then (P := l.prog) (w := w) (base := base) M_then T MK GI b5 cSh
  obtain ⟨f9, x9, F9, b9, G9⟩ := ok_lshift (P := l.prog) (w := w) (base := base) M_lshift T MK GI v3 b3 cCs x8 G8 b8
  obtain ⟨f10, x10, F10, b10, G10⟩ := ok_rshift (P := l.prog) (w := w) (base := base) M_rshift T MK GI v3 b3 cCs x8 G8 b8
  have FCM := fun_mk (st := s_Blend_constant) l_CM c_CM k_CM
  have G13 := ok_cst (P := l.prog) (w := w) (base := base) FCM T MK GI b5
  have CM : ClX.CMet K C (.type "type") "constant" pCM gCM := ⟨fcC, ⟨rsCM, rec_at lCM vCM⟩, fnCM⟩
  have CR : ClX.CRead K C (.type "type") := ⟨rdC, gaC⟩
  have cDr := ok_draw (P := l.prog) (w := w) (base := base) D_law_draw (bi_of B)
  have cPn := ok_pen (P := l.prog) (w := w) (base := base) D_law_pen (bi_of B)
  have cWo := ok_word (P := l.prog) (w := w) (base := base) D_law_word B cDr
  have cOd := ok_odd (P := l.prog) (w := w) (base := base) D_law_odd B cWo
  have cWh := ok_whole (P := l.prog) (w := w) (base := base) D_law_whole B
  have cDu := ok_due (P := l.prog) (w := w) (base := base) D_law_due B cWh
  have gM := ok_made (P := l.prog) (w := w) (base := base) (ce := ce) h12 h13 l__law_made_right c__law_made_right (TB (cl1, Pt1) List.mem_cons_self) T B ER D_law_heard cDu Gr a_Blend___repr__ i_Blend___repr__ br MK GI b5
  have gO := ok_ops (P := l.prog) (w := w) (base := base) (ce := ce) (fT := fT) h12 h23 l__law_operations_right c__law_operations_right (TB (cl2, Pt2) (List.mem_cons_of_mem _ List.mem_cons_self)) T B ER D_law_heard cWh Gr a_Blend___repr__ i_Blend___repr__ br oA G1 b1 oO G2 b2' oX G3 b3' kA G4 b4 kO G5 b5' kX G6 b6 oL G9 b9 oS G10 b10 a_Blend___call__ i_Blend___call__ fnC Gc bc CR CM G13 (FCM.binds bd_Blend_constant)
  have cM : Cal l.prog w K mg base 12 "_law_made_right" (spMade Pt1 Pt2 Pt3) := ⟨_, _, _, PySem.W.mg_of X G n__law_made_right, k__law_made_right, (fun_mk (st := s__law_made_right) l__law_made_right c__law_made_right k__law_made_right).binds bd__law_made_right, gM⟩
  have cO : Cal l.prog w K mg base 12 "_law_operations_right" (spOps C Pt1 Pt2 Pt3) := ⟨_, _, _, PySem.W.mg_of X G n__law_operations_right, k__law_operations_right, (fun_mk (st := s__law_operations_right) l__law_operations_right c__law_operations_right k__law_operations_right).binds bd__law_operations_right, gO⟩
  exact ok_law (ce := ce) h13 h23 l_law c_law (TB (cl3, Pt3) (List.mem_cons_of_mem _ (List.mem_cons_of_mem _ List.mem_cons_self))) T B ER D_law_heard cPn cDr cOd cWo cO cM Gr a_Blend___repr__ i_Blend___repr__ br MK GI b5 CR CM G13 (FCM.binds bd_Blend_constant)
end Law

set_option Elab.async false
set_option linter.all false
set_option maxRecDepth 100000
set_option maxHeartbeats 4000000
namespace Law
open PySem PySem.Spec PySem.Calls PyProof.Rows L2 KG
local macro_rules | `(tactic| walk_at "1") => `(tactic| first
  | (with_reducible refine w_var rfl ?_) | (with_reducible refine w_c ?_) | (with_reducible refine w_seq ?_) | (with_reducible refine w_asg ?_) | (with_reducible refine w_gname ?_) | (with_reducible refine w_op ?_) | (with_reducible refine w_un ?_)
  | (with_reducible refine w_add ?_) | (with_reducible refine w_sub ?_) | ((with_reducible refine' w_mod ?mo ?_); (case mo => first | assumption | decide | omega)) | (with_reducible refine w_and ?_) | (with_reducible refine w_or ?_) | (with_reducible refine w_xor ?_)
  | (with_reducible refine w_gt ?_) | (with_reducible refine w_lt ?_) | (with_reducible refine w_ge ?_) | (with_reducible refine w_le ?_) | ((with_reducible refine' w_eq ?sc ?_); (case sc => rfl)) | ((with_reducible refine' w_ne ?sc ?_); (case sc => rfl))
  | (with_reducible refine w_ret ?_) | (with_reducible refine w_next ?_) | (with_reducible refine w_ifs ?_) | (with_reducible refine w_ifx ?_) | (with_reducible refine w_test ?_) | (with_reducible refine w_tB ?_) | (with_reducible refine w_bl ?_)
  | ((with_reducible refine' w_ixL ?ixh ?ixa ?_); (case ixh => first | exact SqL.of (by assumption)); (case ixa => first | rfl | skip)) | ((with_reducible refine' w_ixT ?ixh ?ixa ?_); (case ixh => first | exact SqT.of (by assumption)); (case ixa => first | rfl | skip))
  | ((with_reducible refine' w_fld ?_)) | ((with_reducible refine' fld ?fh ?fc ?fn ?fl ?_); (case fh => assumption); (case fc => assumption); (case fn => assumption); (case fl => rfl)) | (with_reducible refine w_sfld ?_)
  | (with_reducible refine Or.inl ⟨_, rfl, ?_⟩) | (with_reducible refine w_gsub ?_) | (with_reducible refine w_andV ?_) | (with_reducible refine w_orV ?_)
  | (with_reducible refine w_nil ?_) | (with_reducible refine w_cons ?_) | (with_reducible refine w_tup ?_) | (with_reducible refine w_lst ?_) | (with_reducible refine w_and2 ?_) | (with_reducible refine w_or2 ?_) | (with_reducible refine w_not ?_) | (with_reducible refine w_cb ?_) | (with_reducible refine w_call ?_) | (with_reducible refine w_par ?_) | (with_reducible refine w_pnil ?_) | (with_reducible refine w_pcons ?_) | (with_reducible refine w_dput ?_) | (with_reducible refine w_dget ?_) | (with_reducible refine w_for ?_) | (with_reducible refine w_itup ?_) | (with_reducible refine w_ilist ?_) | (with_reducible refine w_irng ?_) | (with_reducible refine w_meth ?_) | (with_reducible refine w_make ?_) | (with_reducible refine w_makeK ?_) | (with_reducible refine w_methK ?_) | ((with_reducible refine' mth ?mh ?ml ?_); (case mh => assumption); (case ml => rfl)) | (with_reducible refine w_drop ?_))
local macro_rules | `(tactic| walk_at "go") => `(tactic| ((repeat (walk_at "1")); try dsimp only))
local macro_rules | `(tactic| walk_at "1") => `(tactic| first
  | (with_reducible refine w_notV ?_) | (with_reducible refine w_callK ?_) | (with_reducible refine w_lc ?_) | (with_reducible refine w_chain ?_) | (with_reducible refine w_neg ?_) | ((with_reducible refine' w_shr ?mo ?_); (case mo => first | assumption | omega)))
end Law
open PySem PySem.W PyProof.Rows
set_option maxRecDepth 100000 in
set_option maxHeartbeats 0 in
theorem PySem.Challenge.cw_keptbits_k05_what_blends_refuse_holds : PySem.Challenge.rw_keptbits_k05_what_blends_refuse.Holds := by
  w_on; o_law; k_head; (case hw => w_witness2)
  k_fill
  refine KG.walk_gdT (CX := L2.CX0) (k := 13) (n := 63) (x := "_law_script") (l := PySem.Challenge.rw_keptbits_k05_what_blends_refuse) rfl (by decide) rfl ⟨rfl, by decide, by decide⟩ (fun w h Y => PySem.W.km_in_of Y) ?F ?g2
  case g2 => exact fun _ _ _ _ z => z
  case F =>
    intro w mg fa h _ KX G hmg tabs
    refine' Law.all KX G hmg tabs (by rfl) (by rfl) (by rfl) ?n_Blend ?n_BitError ?n_LANES ?no_int ?no_len ?no_abs ?no_list ?no_repr ?no_range ?no_str ?no_isinstance ?no_bool ?no_tuple ?no_ValueError ?no_super ?pg ?hd ?po ?fd_C_setattr ?fd_C_class ?isM ?fd_C_width ?fd_C_shift ?fd_C_keep ?fd_C_flip ?isG ?isT ?mk ?kc ?sf ?sTNoneType ?sCNoneType ?sTbool ?sCbool ?sTint ?sCint ?sTstr ?sCstr ?sTtuple ?sCtuple ?sTlist ?sClist ?sTdict ?sCdict ?sBB ?hBE ?tBE ?lL ?eh1 ?eh2 ?eh3 ?loL ?n_InvalidWidth ?n_InvalidLane ?n_InvalidWord ?n_InvalidShift ?n_InvalidKind ?n_InvalidLetters ?hD0 ?ty0 ?hD1 ?ty1 ?hD2 ?ty2 ?hD3 ?ty3 ?hD4 ?ty4 ?hD5 ?ty5 ?sE0 ?fd_E0_getattribute ?fd_E0_getattr ?sB0 ?fd_E0_class ?mO0 ?fd_E0_value ?sV0 ?s01 ?ne01 ?s02 ?ne02 ?s03 ?ne03 ?s04 ?ne04 ?s05 ?ne05 ?sE1 ?fd_E1_getattribute ?fd_E1_getattr ?sB1 ?fd_E1_class ?mO1 ?fd_E1_value ?sV1 ?s10 ?ne10 ?s12 ?ne12 ?s13 ?ne13 ?s14 ?ne14 ?s15 ?ne15 ?sE2 ?fd_E2_getattribute ?fd_E2_getattr ?sB2 ?fd_E2_class ?mO2 ?fd_E2_value ?sV2 ?s20 ?ne20 ?s21 ?ne21 ?s23 ?ne23 ?s24 ?ne24 ?s25 ?ne25 ?sE3 ?fd_E3_getattribute ?fd_E3_getattr ?sB3 ?fd_E3_class ?mO3 ?fd_E3_value ?sV3 ?s30 ?ne30 ?s31 ?ne31 ?s32 ?ne32 ?s34 ?ne34 ?s35 ?ne35 ?sE4 ?fd_E4_getattribute ?fd_E4_getattr ?sB4 ?fd_E4_class ?mO4 ?fd_E4_value ?sV4 ?s40 ?ne40 ?s41 ?ne41 ?s42 ?ne42 ?s43 ?ne43 ?s45 ?ne45 ?fBE ?cBE ?opq ?topE ?clE0 ?veE0 ?fd_E0_setattr ?kE0 ?iniE0 ?fnE0 ?lE0 ?cE0 ?lC0 ?vE0 ?fE0 ?lcc0 ?mE0 ?mBE0 ?clE2 ?veE2 ?fd_E2_setattr ?kE2 ?iniE2 ?fnE2 ?lE2 ?cE2 ?lC2 ?vE2 ?fE2 ?lcc2 ?mE2 ?mBE2 ?clE3 ?veE3 ?fd_E3_setattr ?kE3 ?iniE3 ?fnE3 ?lE3 ?cE3 ?lC3 ?vE3 ?fE3 ?lcc3 ?mE3 ?mBE3 ?a_init ?i_init ?l_init ?c_init ?k_init ?lTD ?a_Blend___call__ ?i_Blend___call__ ?l_Blend___call__ ?c_Blend___call__ ?k_Blend___call__ ?a_Blend___repr__ ?i_Blend___repr__ ?l_Blend___repr__ ?c_Blend___repr__ ?k_Blend___repr__ ?a_Blend___and__ ?i_Blend___and__ ?l_Blend___and__ ?c_Blend___and__ ?k_Blend___and__ ?a_Blend___or__ ?i_Blend___or__ ?l_Blend___or__ ?c_Blend___or__ ?k_Blend___or__ ?a_Blend___xor__ ?i_Blend___xor__ ?l_Blend___xor__ ?c_Blend___xor__ ?k_Blend___xor__ ?a_Blend___rand__ ?i_Blend___rand__ ?l_Blend___rand__ ?c_Blend___rand__ ?k_Blend___rand__ ?a_Blend___ror__ ?i_Blend___ror__ ?l_Blend___ror__ ?c_Blend___ror__ ?k_Blend___ror__ ?a_Blend___rxor__ ?i_Blend___rxor__ ?l_Blend___rxor__ ?c_Blend___rxor__ ?k_Blend___rxor__ ?a_Blend___lshift__ ?i_Blend___lshift__ ?l_Blend___lshift__ ?c_Blend___lshift__ ?k_Blend___lshift__ ?a_Blend___rshift__ ?i_Blend___rshift__ ?l_Blend___rshift__ ?c_Blend___rshift__ ?k_Blend___rshift__ ?a_Blend_then ?i_Blend_then ?l_Blend_then ?c_Blend_then ?k_Blend_then ?fnC ?rClshift ?rCrshift ?aCM ?lCM ?vCM ?l_CM ?c_CM ?k_CM ?spCM ?fnCM ?rdC ?gaC ?fcC ?n_is_int ?l_is_int ?c_is_int ?k_is_int ?n_is_width ?l_is_width ?c_is_width ?k_is_width ?n_full_word ?l_full_word ?c_full_word ?k_full_word ?n_is_word ?l_is_word ?c_is_word ?k_is_word ?n_shifted ?l_shifted ?c_shifted ?k_shifted ?n_check_word ?l_check_word ?c_check_word ?k_check_word ?n_check_shift ?l_check_shift ?c_check_shift ?k_check_shift ?n__law_pen ?l__law_pen ?c__law_pen ?k__law_pen ?n__law_draw ?l__law_draw ?c__law_draw ?k__law_draw ?n__law_word ?l__law_word ?c__law_word ?k__law_word ?n__law_heard ?l__law_heard ?c__law_heard ?k__law_heard ?n__law_odd ?l__law_odd ?c__law_odd ?k__law_odd ?n__law_whole ?l__law_whole ?c__law_whole ?k__law_whole ?n__law_due ?l__law_due ?c__law_due ?k__law_due ?n__law_made_right ?l__law_made_right ?c__law_made_right ?k__law_made_right ?n__law_operations_right ?l__law_operations_right ?c__law_operations_right ?k__law_operations_right ?n_law ?l_law ?c_law ?k_law ?lcl1 ?v11_1 ?hdl1 ?nPt1 ?lcl2 ?v11_2 ?hdl2 ?nPt2 ?lcl3 ?v11_3 ?hdl3 ?nPt3 ?nePt12 ?nePt13 ?nePt23
    (case n_Blend => k_is)
    (case n_BitError => k_is)
    (case n_LANES => k_is)
    (case no_int => k_is)
    (case no_len => k_is)
    (case no_abs => k_is)
    (case no_list => k_is)
    (case no_repr => k_is)
    (case no_range => k_is)
    (case no_str => k_is)
    (case no_isinstance => k_is)
    (case no_bool => k_is)
    (case no_tuple => k_is)
    (case no_ValueError => k_is)
    (case no_super => k_is)
    (case pg => k_is)
    (case hd => k_is)
    (case po => k_is)
    (case fd_C_setattr => k_is)
    (case fd_C_class => k_is)
    (case isM => k_is)
    (case fd_C_width => k_is)
    (case fd_C_shift => k_is)
    (case fd_C_keep => k_is)
    (case fd_C_flip => k_is)
    (case isG => k_is)
    (case isT => k_is)
    (case mk => k_is)
    (case kc => k_is)
    (case sf => first | k_is | kernel_rfl)
    (case sTNoneType => k_is)
    (case sCNoneType => k_is)
    (case sTbool => k_is)
    (case sCbool => k_is)
    (case sTint => k_is)
    (case sCint => k_is)
    (case sTstr => k_is)
    (case sCstr => k_is)
    (case sTtuple => k_is)
    (case sCtuple => k_is)
    (case sTlist => k_is)
    (case sClist => k_is)
    (case sTdict => k_is)
    (case sCdict => k_is)
    (case sBB => k_is)
    (case hBE => k_is)
    (case tBE => k_is)
    (case lL => k_is)
    (case eh1 => first | rfl | decide +kernel)
    (case eh2 => first | rfl | decide +kernel)
    (case eh3 => first | rfl | decide +kernel)
    (case loL => rfl)
    (case n_InvalidWidth => k_is)
    (case n_InvalidLane => k_is)
    (case n_InvalidWord => k_is)
    (case n_InvalidShift => k_is)
    (case n_InvalidKind => k_is)
    (case n_InvalidLetters => k_is)
    (case hD0 => k_is)
    (case ty0 => k_is)
    (case hD1 => k_is)
    (case ty1 => k_is)
    (case hD2 => k_is)
    (case ty2 => k_is)
    (case hD3 => k_is)
    (case ty3 => k_is)
    (case hD4 => k_is)
    (case ty4 => k_is)
    (case hD5 => k_is)
    (case ty5 => k_is)
    (case sE0 => k_is)
    (case fd_E0_getattribute => k_is)
    (case fd_E0_getattr => k_is)
    (case sB0 => k_is)
    (case fd_E0_class => k_is)
    (case mO0 => k_is)
    (case fd_E0_value => k_is)
    (case sV0 => k_is)
    (case s01 => k_is)
    (case ne01 => rfl)
    (case s02 => k_is)
    (case ne02 => rfl)
    (case s03 => k_is)
    (case ne03 => rfl)
    (case s04 => k_is)
    (case ne04 => rfl)
    (case s05 => k_is)
    (case ne05 => rfl)
    (case sE1 => k_is)
    (case fd_E1_getattribute => k_is)
    (case fd_E1_getattr => k_is)
    (case sB1 => k_is)
    (case fd_E1_class => k_is)
    (case mO1 => k_is)
    (case fd_E1_value => k_is)
    (case sV1 => k_is)
    (case s10 => k_is)
    (case ne10 => rfl)
    (case s12 => k_is)
    (case ne12 => rfl)
    (case s13 => k_is)
    (case ne13 => rfl)
    (case s14 => k_is)
    (case ne14 => rfl)
    (case s15 => k_is)
    (case ne15 => rfl)
    (case sE2 => k_is)
    (case fd_E2_getattribute => k_is)
    (case fd_E2_getattr => k_is)
    (case sB2 => k_is)
    (case fd_E2_class => k_is)
    (case mO2 => k_is)
    (case fd_E2_value => k_is)
    (case sV2 => k_is)
    (case s20 => k_is)
    (case ne20 => rfl)
    (case s21 => k_is)
    (case ne21 => rfl)
    (case s23 => k_is)
    (case ne23 => rfl)
    (case s24 => k_is)
    (case ne24 => rfl)
    (case s25 => k_is)
    (case ne25 => rfl)
    (case sE3 => k_is)
    (case fd_E3_getattribute => k_is)
    (case fd_E3_getattr => k_is)
    (case sB3 => k_is)
    (case fd_E3_class => k_is)
    (case mO3 => k_is)
    (case fd_E3_value => k_is)
    (case sV3 => k_is)
    (case s30 => k_is)
    (case ne30 => rfl)
    (case s31 => k_is)
    (case ne31 => rfl)
    (case s32 => k_is)
    (case ne32 => rfl)
    (case s34 => k_is)
    (case ne34 => rfl)
    (case s35 => k_is)
    (case ne35 => rfl)
    (case sE4 => k_is)
    (case fd_E4_getattribute => k_is)
    (case fd_E4_getattr => k_is)
    (case sB4 => k_is)
    (case fd_E4_class => k_is)
    (case mO4 => k_is)
    (case fd_E4_value => k_is)
    (case sV4 => k_is)
    (case s40 => k_is)
    (case ne40 => rfl)
    (case s41 => k_is)
    (case ne41 => rfl)
    (case s42 => k_is)
    (case ne42 => rfl)
    (case s43 => k_is)
    (case ne43 => rfl)
    (case s45 => k_is)
    (case ne45 => rfl)
    (case fBE => k_is)
    (case cBE => k_is)
    (case opq => k_is)
    (case topE => rfl)
    (case clE0 => k_is)
    (case veE0 => rfl)
    (case fd_E0_setattr => k_is)
    (case kE0 => k_is)
    (case iniE0 => k_is)
    (case fnE0 => k_is)
    (case lE0 => k_is)
    (case cE0 => k_is)
    (case lC0 => k_is)
    (case vE0 => rfl)
    (case fE0 => rfl)
    (case lcc0 => k_is)
    (case mE0 => k_is)
    (case mBE0 => rfl)
    (case clE2 => k_is)
    (case veE2 => rfl)
    (case fd_E2_setattr => k_is)
    (case kE2 => k_is)
    (case iniE2 => k_is)
    (case fnE2 => k_is)
    (case lE2 => k_is)
    (case cE2 => k_is)
    (case lC2 => k_is)
    (case vE2 => rfl)
    (case fE2 => rfl)
    (case lcc2 => k_is)
    (case mE2 => k_is)
    (case mBE2 => rfl)
    (case clE3 => k_is)
    (case veE3 => rfl)
    (case fd_E3_setattr => k_is)
    (case kE3 => k_is)
    (case iniE3 => k_is)
    (case fnE3 => k_is)
    (case lE3 => k_is)
    (case cE3 => k_is)
    (case lC3 => k_is)
    (case vE3 => rfl)
    (case fE3 => rfl)
    (case lcc3 => k_is)
    (case mE3 => k_is)
    (case mBE3 => rfl)
    (case a_init => k_is)
    (case i_init => k_is)
    (case l_init => k_is)
    (case c_init => k_is)
    (case k_init => k_is)
    (case lTD => k_is)
    (case a_Blend___call__ => k_is)
    (case i_Blend___call__ => k_is)
    (case l_Blend___call__ => k_is)
    (case c_Blend___call__ => k_is)
    (case k_Blend___call__ => k_is)
    (case a_Blend___repr__ => k_is)
    (case i_Blend___repr__ => k_is)
    (case l_Blend___repr__ => k_is)
    (case c_Blend___repr__ => k_is)
    (case k_Blend___repr__ => k_is)
    (case a_Blend___and__ => k_is)
    (case i_Blend___and__ => k_is)
    (case l_Blend___and__ => k_is)
    (case c_Blend___and__ => k_is)
    (case k_Blend___and__ => k_is)
    (case a_Blend___or__ => k_is)
    (case i_Blend___or__ => k_is)
    (case l_Blend___or__ => k_is)
    (case c_Blend___or__ => k_is)
    (case k_Blend___or__ => k_is)
    (case a_Blend___xor__ => k_is)
    (case i_Blend___xor__ => k_is)
    (case l_Blend___xor__ => k_is)
    (case c_Blend___xor__ => k_is)
    (case k_Blend___xor__ => k_is)
    (case a_Blend___rand__ => k_is)
    (case i_Blend___rand__ => k_is)
    (case l_Blend___rand__ => k_is)
    (case c_Blend___rand__ => k_is)
    (case k_Blend___rand__ => k_is)
    (case a_Blend___ror__ => k_is)
    (case i_Blend___ror__ => k_is)
    (case l_Blend___ror__ => k_is)
    (case c_Blend___ror__ => k_is)
    (case k_Blend___ror__ => k_is)
    (case a_Blend___rxor__ => k_is)
    (case i_Blend___rxor__ => k_is)
    (case l_Blend___rxor__ => k_is)
    (case c_Blend___rxor__ => k_is)
    (case k_Blend___rxor__ => k_is)
    (case a_Blend___lshift__ => k_is)
    (case i_Blend___lshift__ => k_is)
    (case l_Blend___lshift__ => k_is)
    (case c_Blend___lshift__ => k_is)
    (case k_Blend___lshift__ => k_is)
    (case a_Blend___rshift__ => k_is)
    (case i_Blend___rshift__ => k_is)
    (case l_Blend___rshift__ => k_is)
    (case c_Blend___rshift__ => k_is)
    (case k_Blend___rshift__ => k_is)
    (case a_Blend_then => k_is)
    (case i_Blend_then => k_is)
    (case l_Blend_then => k_is)
    (case c_Blend_then => k_is)
    (case k_Blend_then => k_is)
    (case fnC => first | k_is | kernel_rfl)
    (case rClshift => k_is)
    (case rCrshift => k_is)
    (case aCM => k_is)
    (case lCM => k_is)
    (case vCM => rfl)
    (case l_CM => k_is)
    (case c_CM => k_is)
    (case k_CM => k_is)
    (case spCM => first | k_is | kernel_rfl)
    (case fnCM => first | k_is | kernel_rfl)
    (case rdC => first | k_is | kernel_rfl)
    (case gaC => first | k_is | kernel_rfl)
    (case fcC => first | k_is | kernel_rfl)
    (case n_is_int => k_is)
    (case l_is_int => k_is)
    (case c_is_int => k_is)
    (case k_is_int => k_is)
    (case n_is_width => k_is)
    (case l_is_width => k_is)
    (case c_is_width => k_is)
    (case k_is_width => k_is)
    (case n_full_word => k_is)
    (case l_full_word => k_is)
    (case c_full_word => k_is)
    (case k_full_word => k_is)
    (case n_is_word => k_is)
    (case l_is_word => k_is)
    (case c_is_word => k_is)
    (case k_is_word => k_is)
    (case n_shifted => k_is)
    (case l_shifted => k_is)
    (case c_shifted => k_is)
    (case k_shifted => k_is)
    (case n_check_word => k_is)
    (case l_check_word => k_is)
    (case c_check_word => k_is)
    (case k_check_word => k_is)
    (case n_check_shift => k_is)
    (case l_check_shift => k_is)
    (case c_check_shift => k_is)
    (case k_check_shift => k_is)
    (case n__law_pen => k_is)
    (case l__law_pen => k_is)
    (case c__law_pen => k_is)
    (case k__law_pen => k_is)
    (case n__law_draw => k_is)
    (case l__law_draw => k_is)
    (case c__law_draw => k_is)
    (case k__law_draw => k_is)
    (case n__law_word => k_is)
    (case l__law_word => k_is)
    (case c__law_word => k_is)
    (case k__law_word => k_is)
    (case n__law_heard => k_is)
    (case l__law_heard => k_is)
    (case c__law_heard => k_is)
    (case k__law_heard => k_is)
    (case n__law_odd => k_is)
    (case l__law_odd => k_is)
    (case c__law_odd => k_is)
    (case k__law_odd => k_is)
    (case n__law_whole => k_is)
    (case l__law_whole => k_is)
    (case c__law_whole => k_is)
    (case k__law_whole => k_is)
    (case n__law_due => k_is)
    (case l__law_due => k_is)
    (case c__law_due => k_is)
    (case k__law_due => k_is)
    (case n__law_made_right => k_is)
    (case l__law_made_right => k_is)
    (case c__law_made_right => k_is)
    (case k__law_made_right => k_is)
    (case n__law_operations_right => k_is)
    (case l__law_operations_right => k_is)
    (case c__law_operations_right => k_is)
    (case k__law_operations_right => k_is)
    (case n_law => k_is)
    (case l_law => k_is)
    (case c_law => k_is)
    (case k_law => k_is)
    (case lcl1 => k_is)
    (case v11_1 => rfl)
    (case hdl1 => kernel_rfl)
    (case nPt1 => kernel_rfl)
    (case lcl2 => k_is)
    (case v11_2 => rfl)
    (case hdl2 => kernel_rfl)
    (case nPt2 => kernel_rfl)
    (case lcl3 => k_is)
    (case v11_3 => rfl)
    (case hdl3 => kernel_rfl)
    (case nPt3 => kernel_rfl)
    (case nePt12 => rfl)
    (case nePt13 => rfl)
    (case nePt23 => rfl)
#print axioms PySem.Challenge.cw_keptbits_k05_what_blends_refuse_holds
