import PyProof.Rows.All
import Wide.All
import OpenK.AllK
import Wide.FinOn
import HandS.ForMost
import HandS.ForExc
import HandS.MakeKw
import HandS.FStr
import HandS.Conv
import HandS.ClsMeth
import KE.KCallOwn
import HandS.IsInst
import PyProof.InstEq
import HandS.Lambda
import HandS.ExcInit
import HandS.ExcIs
import HandS.ExcField
import KE.KExcIs
import KE.KExcSuper
import KE.KExcMake
import HandS.EndTab
import HandS.EndOwn
import HandS.NestedK
import PyProof.P3In
import PyProof.FactsAll.dict_1
import KE.KOpsOwn
import HandS.SlotsOwn
import HandS.Defaults
import PyProof.TwoTypes
import PyProof.Rows.FactsB_and
import PyProof.Rows.FactsB_or
import PyProof.Rows.FactsB_xor
import HandS.Property
import HandS.GenYield
import HandS.GenList
import HandS.Text
import KE.BitLaws
import HandS.TupAny
import HandS.Style
import HandS.SortRule
import PySem.Challenge.RW_keptbits_k02_blends_by_operations
set_option Elab.async false
set_option linter.all false
set_option maxRecDepth 100000
set_option maxHeartbeats 4000000
/-! KG: defs that are promised something where nothing is being shown (no repr under way), so that repr of data is an exact text. -/
namespace KG
open PySem PySem.Spec PyProof.Rows L2

/-- the promise of a def, for callers around which nothing is being shown -/
structure Gd (P : Program) (w : World) (K : PySem.W.Frag) (mg : Str → Option Value) (base : Heap) (CX : CXT) (k : Nat) (f : Addr) (fd : FuncData) (ps : List Str) (sp : Sp) : Prop where
  len : ∀ vs H Q E, sp vs H Q E → vs.length = ps.length
  go : ∀ (A : Around) (outer : List Env) (s : Shared) (H : Hp) (args : Args) (us : List Value) (vs : List V) (Q : VK) (E : XK),
    Room k A → A.guards = some [] → Env0 P w K mg base A outer s H → BindsTo s fd args (ps.zip us) → Vals vs us → sp vs H Q E →
    codeAny (model P w) A (.call (.ref f) args) (CR CX outer P w H s Q E) s

section
variable {P : Program} {w : World} {K : PySem.W.Frag} {mg : Str → Option Value} {base : Heap} {CX : CXT} {k j : Nat} {f : Addr} {fd : FuncData} {ps : List Str} {sp sp' : Sp}
theorem Gd.mono (F : Gd P w K mg base CX j f fd ps sp) (h : j ≤ k) : Gd P w K mg base CX k f fd ps sp :=
  ⟨F.len, fun A o s H a us vs Q E rm => F.go A o s H a us vs Q E (rm.mono h)⟩
theorem Gd.imp (F : Gd P w K mg base CX k f fd ps sp) (h : ∀ vs H Q E, sp' vs H Q E → sp vs H Q E) : Gd P w K mg base CX k f fd ps sp' :=
  ⟨fun vs H Q E q => F.len vs H Q E (h _ _ _ _ q), fun A o s H a us vs Q E rm gd e0 bt rv q => F.go A o s H a us vs Q E rm gd e0 bt rv (h _ _ _ _ q)⟩
theorem Gd.of_ok (F : FnOk P w K mg base CX k f fd ps sp) : Gd P w K mg base CX k f fd ps sp :=
  ⟨F.len, fun A o s H a us vs Q E rm _ e0 bt rv q => F.run A o s H a us vs Q E rm e0 bt rv q⟩

/-- a def by its body -/
theorem gd_of {name qual : Str} {params : Arguments} {body : List Stmt} {scope : Scope} {dV kV doc pm cdv ct oc : Value} {an od : Option Addr}
    {osl : Array (Option Value)} {N : List Str}
    (found : K.lookup f = some ⟨oc, od, .func (PySem.W.fnOf name qual params body scope dV kV doc pm an cdv ct), osl⟩)
    (code : PySem.W.codeIn K cdv qual = true) (sc : FnScope N ps scope) (len : ∀ vs H Q E, sp vs H Q E → vs.length = ps.length)
    (inner : ∀ (A : Around) (outer : List Env) (s : Shared) (H : Hp) (vs : List V) (Q : VK) (E : XK),
      Room k (A.deeper (envOfC qual scope s.heap.objs.size f cdv)) → (A.deeper (envOfC qual scope s.heap.objs.size f cdv)).guards = some [] → sp vs H Q E →
      ∃ t, PSs (cxOf CX P w K mg base N qual scope f cdv A outer s H E) body t ∧ t { nx := fun _ H' => Q .non H', rt := Q } (start N vs) H) :
    Gd P w K mg base CX (k + 1) f (PySem.W.fnOf name qual params body scope dV kV doc pm an cdv ct) ps sp := by
  refine ⟨len, fun A outer s H args us vs Q E rm gd e0 bt rv q0 => ?_⟩
  have llen := len _ _ _ _ q0
  have kin : K.In s.heap := e0.mod.kin.keeps fun b o e => (e0.bs b o e).1
  have nolim : s.heap.NoLimit := e0.mod.nolimit.keeps fun b o e => (e0.bs b o e).1
  have kinds : ∀ y ∈ ps.zip us, scope.names.lookup y.1 = some .local ∨
      (scope.names.lookup y.1 = some .cell ∧ ((cellsFrom (s.heap.objs.size + 1) scope.names []).lookup y.1).isSome = true) := by
    intro ⟨n, v⟩ hy
    rcases sc.par n (List.of_mem_zip hy).1 with z | z
    · exact .inl z
    · exact .inr ⟨z, PySem.W.cellsFrom_some _ _ _ (.inl z)⟩
  refine codeAny_call_function rm.depth (kin _ _ found) rfl sc.co sc.gen rfl (PySem.W.codeRec_of kin code) (bt _ _ _ _ ?_)
  refine wpAny_newFunctionEnv_cells sc.kind kinds fun env he s1 x => ?_
  subst he
  refine ⟨nolim.keeps x.toInCall.keep, codeAny_func ?_⟩
  obtain ⟨t, ht, hq⟩ := inner A outer s H vs Q E (rm.deeper _) gd q0
  have I := inv_start (CX := CX) (E := E) sc rm.hd e0 llen rv x
  refine wpAny_mono (ht.run [] s1 (start N vs) H _ I hq) (fun fl s' hs => ?_) fun e s' hs => hs
  have done : ∀ {σ' : L2.St} {H' : Hp} {v : V} {u : Value}, Inv (cxOf CX P w K mg base N qual scope f cdv A outer s H E) [] σ' H' s' → RelV v u → Q v H' → CE outer P w H s Q u s' :=
    fun {σ' H' v u} J r q => ⟨v, H', J.os, J.bare, J.base, J.hok, r, q⟩
  cases fl with
  | ret u =>
    obtain ⟨v, σ', H', J, r, q⟩ := hs
    exact done J r q
  | next =>
    obtain ⟨σ', H', J, q⟩ := hs
    exact done (v := V.non) (u := Value.none) J rfl q
  | brk => exact hs.elim fun _ h => h.elim fun _ h => False.elim h.2
  | cont => exact hs.elim fun _ h => h.elim fun _ h => False.elim h.2

/-- a def of the text that raises nothing, by its body -/
theorem gd0 {x qual : Str} {st : Stmt} {N : List Str} (F : Fun K x qual st f fd) (sc : FnScope N ps (defScope st)) (len : ∀ vs H Q E, sp vs H Q E → vs.length = ps.length)
    (inner : ∀ (cdv : Value) (A : Around) (outer : List Env) (s : Shared) (H : Hp) (vs : List V) (Q : VK) (E : XK),
      Room k (A.deeper (envOfC qual (defScope st) s.heap.objs.size f cdv)) → (A.deeper (envOfC qual (defScope st) s.heap.objs.size f cdv)).guards = some [] → sp vs H Q E →
      ∃ t, PSs (cxOf CX0 P w K mg base N qual (defScope st) f cdv A outer s H E).nox (defBody st) t ∧ t { nx := fun _ H' => Q .non H', rt := Q } (start N vs) H) :
    Gd P w K mg base CX0 (k + 1) f fd ps sp := by
  obtain ⟨oc, od, kV, doc, pm, an, cdv, ct, osl, rfl, found, code⟩ := F.ex
  exact gd_of found code sc len fun A outer s H vs Q E rm gd q => (inner cdv A outer s H vs Q E rm gd q).elim fun t h => ⟨t, h.1.nox, h.2⟩
/-- a def of the text that may raise, by its body -/
theorem gdX {x qual : Str} {st : Stmt} {N : List Str} (F : Fun K x qual st f fd) (sc : FnScope N ps (defScope st)) (len : ∀ vs H Q E, sp vs H Q E → vs.length = ps.length)
    (inner : ∀ (cdv : Value) (A : Around) (outer : List Env) (s : Shared) (H : Hp) (vs : List V) (Q : VK) (E : XK),
      Room k (A.deeper (envOfC qual (defScope st) s.heap.objs.size f cdv)) → (A.deeper (envOfC qual (defScope st) s.heap.objs.size f cdv)).guards = some [] → sp vs H Q E →
      ∃ t, PSs (cxOf (L2.CX P w) P w K mg base N qual (defScope st) f cdv A outer s H E) (defBody st) t ∧ t { nx := fun _ H' => Q .non H', rt := Q } (start N vs) H) :
    Gd P w K mg base (L2.CX P w) (k + 1) f fd ps sp := by
  obtain ⟨oc, od, kV, doc, pm, an, cdv, ct, osl, rfl, found, code⟩ := F.ex
  exact gd_of found code sc len fun A outer s H vs Q E rm gd q => inner cdv A outer s H vs Q E rm gd q
end

/-! ### calls -/
section
variable {X : Cx} {CX : CXT} {k : Nat} {f C : Addr} {fd : FuncData} {ps ks : List Str} {sp : Sp} {dvs : List V} {ds : List Value} {E : XK} {x m : Str} {p pos apos : Pos} {e o : Expr} {es : List Expr} {kws : List Keyword} {ta te : TE} {t tk : TA}
/-- the callee runs, around it A with the same frames and nothing shown -/
theorem run_at {pins : List (Addr × Obj)} {σ : L2.St} {H : Hp} {s : Shared} {Q : VK} {us ws : List Value} {kw : List (Str × Value)} {vs : List V} {A : Around} {W : Value → Shared → Prop}
    (F : Gd X.prog X.w X.K X.mg X.base CX k f fd ps sp) (rm : Room k A) (gd : A.guards = some []) (e0 : Env0 X.prog X.w X.K X.mg X.base A X.stack s H)
    (pass : ∀ e s', CX X.stack H s E e s' → W e s')
    (I : Inv X pins σ H s) (bt : BindsTo s fd ⟨us, kw⟩ (ps.zip ws)) (r : Vals vs ws) (q : sp vs H Q E) : wpAny (model X.prog X.w) A (call (.ref f) us kw) (EP X pins σ Q) W s := by
  refine wpAny_call (codeAny_mono (F.go A X.stack s H ⟨us, kw⟩ ws vs Q E rm gd e0 bt r q) fun out s' hq => ?_)
  match out, hq with
  | .error e, hq => exact pass e s' hq
  | .ok (.ret u), hq => exact I.after hq
theorem run_g {pins : List (Addr × Obj)} {σ : L2.St} {H : Hp} {s : Shared} {Q : VK} {us ws : List Value} {kw : List (Str × Value)} {vs : List V}
    (F : Gd X.prog X.w X.K X.mg X.base CX k f fd ps sp) (rm : Room k X.A) (gd : X.A.guards = some []) (hx : Passes CX X E)
    (I : Inv X pins σ H s) (bt : BindsTo s fd ⟨us, kw⟩ (ps.zip ws)) (r : Vals vs ws) (q : sp vs H Q E) : wpAny (model X.prog X.w) X.A (call (.ref f) us kw) (EP X pins σ Q) X.xe s :=
  run_at F rm gd I.env0 (fun e s' hq => hx pins σ H s e s' I hq) I bt r q
theorem bind_pos {s : Shared} {us : List Value} {vs : List V} {H : Hp} {Q : VK} (F : Gd X.prog X.w X.K X.mg X.base CX k f fd ps sp) (hb : Binds X.K fd ps ds) (hd : Vals dvs ds) (KX : X.K.In s.heap) (r : Vals vs us) (q : sp (vs ++ dvs) H Q E) :
    BindsTo s fd ⟨us, []⟩ (ps.zip (us ++ ds)) := hb s us KX (by rw [← (r.append hd).length]; exact F.len _ _ _ _ q)

/-- f(e, ..) -/
theorem pe_gcall (F : Gd X.prog X.w X.K X.mg X.base CX k f fd ps sp) (rm : Room k X.A) (gd : X.A.guards = some []) (gl : Gl X x) (at_ : X.mg x = some (.ref f)) (kp : PySem.W.keepIn X.K (.ref f) = true) (hb : Binds X.K fd ps ds) (hd : Vals dvs ds) (hx : Passes CX X E)
    (ha : PA X (e :: es) t) (hdb : (x == ("__debug__" : Str)) = false := by decide) (he : starEach (e :: es) X.env = (false, eval e X.env) :: starEach es X.env := by rfl) (hpl : (backTo pos (starEach es X.env)).any (·.1) = false := by rfl) :
    PE X (.Call (.Name x p) (e :: es) [] pos) (tCall sp dvs E t) :=
  ⟨fun pins s σ H Q I h => wpAny_Call_Name_kw (ld_glob I gl at_ (PySem.W.callWith_K (h₀ := X.base) I.ok.mod.kin kp
    (thn (ha.run pos pins s σ H _ I h) fun us s1 ⟨vs, H1, J, r, q⟩ => ⟨J.kIn, run_g F rm gd hx J (bind_pos F hb hd J.kIn r q) (r.append hd) q⟩) he hpl) hdb)⟩
/-- f() -/
theorem pe_gcall0 (F : Gd X.prog X.w X.K X.mg X.base CX k f fd ps sp) (rm : Room k X.A) (gd : X.A.guards = some []) (gl : Gl X x) (at_ : X.mg x = some (.ref f)) (kp : PySem.W.keepIn X.K (.ref f) = true) (hb : Binds X.K fd ps ds) (hd : Vals dvs ds) (hx : Passes CX X E)
    (hdb : (x == ("__debug__" : Str)) = false := by decide) : PE X (.Call (.Name x p) [] [] pos) (tCall sp dvs E tNil) :=
  ⟨fun pins s σ H Q I h => wpAny_Call_Name_kw (ld_glob I gl at_ (PySem.W.callWith_K0 I.kIn kp (run_g (us := []) (vs := dvs) F rm gd hx I (bind_pos (vs := []) F hb hd I.kIn .nil h) (Vals.append .nil hd) h)) hdb)⟩
/-- o.m(e, ..) -/
theorem pe_gmeth {pl : Sem Bool} (he : PE X o ta) (c : Cls X.K C) (hm : Meth X.K C m f) (F : Gd X.prog X.w X.K X.mg X.base CX k f fd ps sp) (rm : Room k X.A) (gd : X.A.guards = some []) (hb : Binds X.K fd ps ds) (hd : Vals dvs ds) (hx : Passes CX X E) (ha : PA X (e :: es) t)
    (hst : starEach (e :: es) X.env = (false, eval e X.env) :: starEach es X.env := by rfl) (hpl : (backTo pos (starEach es X.env)).any (·.1) = false := by rfl)
    (ht : eval (.Call (.Attribute o m apos) (e :: es) [] pos) X.env = (do
      let w ← eval o X.env
      standAt apos.atName
      let (g, a) ← holding [w] (getMethod w m pl)
      callWith pos g a (backTo pos (starEach (e :: es) X.env)) (backToKw pos (keywordEach [] X.env))) := by rfl) :
    PE X (.Call (.Attribute o m apos) (e :: es) [] pos) (tMeth C m sp dvs E ta t) := by
  refine ⟨fun pins s σ H Q I h => PySem.W.methodCall_KW (pl := pl) (thn (he.run pins s σ H _ I h) fun u s1 ⟨y, H1, I1, ry, a, dx, fs, ey, ea, l, q⟩ => ?_) ht⟩
  subst ey
  obtain rfl : u = Value.ref a := ry
  refine getmeth_ok I1 ea c hm l (PySem.W.callWith_K (first := [.ref a]) (h₀ := X.base) I.ok.mod.kin hm.kp (thn (ha.run pos pins s1 σ H1 _ I1 q) fun us s2 ⟨vs, H2, J, r, q2⟩ => ⟨J.kIn, ?_⟩) hst hpl)
  have r1 : Vals (V.ref a :: vs) (Value.ref a :: us) := .cons rfl r
  exact run_g F rm gd hx J (bind_pos F hb hd J.kIn r1 q2) (r1.append hd) q2
/-- o.m() -/
theorem pe_gmeth0 {pl : Sem Bool} (he : PE X o ta) (c : Cls X.K C) (hm : Meth X.K C m f) (F : Gd X.prog X.w X.K X.mg X.base CX k f fd ps sp) (rm : Room k X.A) (gd : X.A.guards = some []) (hb : Binds X.K fd ps ds) (hd : Vals dvs ds) (hx : Passes CX X E)
    (ht : eval (.Call (.Attribute o m apos) [] [] pos) X.env = (do
      let w ← eval o X.env
      standAt apos.atName
      let (g, a) ← holding [w] (getMethod w m pl)
      callWith pos g a (backTo pos (starEach [] X.env)) (backToKw pos (keywordEach [] X.env))) := by rfl) :
    PE X (.Call (.Attribute o m apos) [] [] pos) (tMeth C m sp dvs E ta tNil) := by
  refine ⟨fun pins s σ H Q I h => PySem.W.methodCall_KW (pl := pl) (thn (he.run pins s σ H _ I h) fun u s1 ⟨y, H1, J, ry, a, dx, fs, ey, ea, l, q⟩ => ?_) ht⟩
  subst ey
  obtain rfl : u = Value.ref a := ry
  have r1 : Vals [V.ref a] [Value.ref a] := .cons rfl .nil
  exact getmeth_ok J ea c hm l (PySem.W.callWith_K0 (first := [.ref a]) J.kIn hm.kp (run_g (us := [.ref a]) F rm gd hx J (bind_pos (vs := [.ref a]) F hb hd J.kIn r1 q) (r1.append hd) q))

/-- some of a list, by places -/
def sel {α : Type} (is : List Nat) (l : List α) : List α := is.filterMap fun i => l[i]?
theorem sel_vals : ∀ (is : List Nat) {vs : List V} {us : List Value}, Vals vs us → Vals (sel is vs) (sel is us)
  | [], _, _, _ => .nil
  | i :: is, vs, us, r => by
    have ih := sel_vals is r
    unfold sel at ih ⊢
    rw [List.filterMap_cons, List.filterMap_cons]
    cases h : vs[i]? with
    | none => rw [r.none_of h]; exact ih
    | some v =>
      obtain ⟨u, e, rv⟩ := r.get h
      rw [e]
      exact .cons rv ih
/-- keywords behind n values: the keywords' values in the order of is -/
theorem kbn_of {K : PySem.W.Frag} {qual : Str} {st : Stmt} (F : Fun K x qual st f fd) (n : Nat) (ks : List Str) (is : List Nat)
    (h : ∀ (kV doc pm : Value) (an : Option Addr) (cdv ct : Value) (us ws : List Value), us.length = n → ws.length = ks.length →
      bindArgs (PySem.W.fnOf x qual (defArgs st) (defBody st) (defScope st) .none kV doc pm an cdv ct) ⟨us, ks.zip ws⟩ = pure (ps.zip (us ++ sel is ws))) :
    KBn K fd ps n ks (fun us ws => us ++ sel is ws) (fun vs zs => vs ++ sel is zs) := by
  obtain ⟨oc, od, kV, doc, pm, an, cdv, ct, osl, rfl, _, _⟩ := F.ex
  exact ⟨fun s us ws _ l1 l2 => .of_eq (h kV doc pm an cdv ct us ws l1 l2), fun r rz => r.append (sel_vals is rz)⟩
variable {n : Nat} {g : List Value → List Value → List Value} {gV : List V → List V → List V}
/-- o.m(k = v, ..) -/
def tMethK (C : Addr) (m : Str) (j : Nat) (sp : Sp) (gV : List V → List V → List V) (E : XK) (ta : TE) (tk : TA) : TE := fun σ H Q => ta σ H fun x H1 => ∃ a dx fs, x = .ref a ∧ H1 a = some (.ins C dx fs) ∧ fs.lookup m = none ∧
  tk σ H1 fun zs H2 => zs.length = j ∧ sp (gV [x] zs) H2 Q E
theorem pe_gmethK {pl : Sem Bool} (he : PE X o ta) (c : Cls X.K C) (hm : Meth X.K C m f) (F : Gd X.prog X.w X.K X.mg X.base CX k f fd ps sp) (rm : Room k X.A) (gd : X.A.guards = some []) (hb : KBn X.K fd ps 1 ks g gV) (hx : Passes CX X E) (hkw : PK X kws tk)
    (hall : (backToKw pos (keywordEach kws X.env)).all (·.1.isSome) = true := by rfl) (hks : (backToKw pos (keywordEach kws X.env)).filterMap (·.1) = ks := by rfl)
    (hpl : ((backTo pos (starEach [] X.env)).any (·.1) || (backToKw pos (keywordEach kws X.env)).any (·.1.isNone)) = false := by rfl)
    (ht : eval (.Call (.Attribute o m apos) [] kws pos) X.env = (do
      let w ← eval o X.env
      standAt apos.atName
      let (g, a) ← holding [w] (getMethod w m pl)
      callWith pos g a (backTo pos (starEach [] X.env)) (backToKw pos (keywordEach kws X.env))) := by rfl) :
    PE X (.Call (.Attribute o m apos) [] kws pos) (tMethK C m ks.length sp gV E ta tk) := by
  refine ⟨fun pins s σ H Q I h => PySem.W.methodCall_KW (pl := pl) (thn (he.run pins s σ H _ I h) fun u s1 ⟨y, H1, I1, ry, a, dx, fs, ey, ea, l, q⟩ => ?_) ht⟩
  subst ey
  obtain rfl : u = Value.ref a := ry
  refine getmeth_ok I1 ea c hm l (PySem.W.callWith_KW0 (first := [.ref a]) (h₀ := X.base) I.ok.mod.kin hm.kp hall (thn (hkw.run pos pins s1 σ H1 _ I1 q) fun ws s2 ⟨zs, H2, J, rz, lz, q2⟩ => ⟨J.kIn, ?_⟩) hpl)
  rw [hks]
  have r1 : Vals [V.ref a] [Value.ref a] := .cons rfl .nil
  exact run_g (us := [.ref a]) F rm gd hx J (hb.to s2 [.ref a] ws J.kIn rfl (rz.length.symm.trans lz)) (hb.rel r1 rz) q2

/-! ### new instances -/
theorem und_make {A : Around} {us : List Value} {kw : List (Str × Value)} : (A.under (.builtin "type.__call__" ⟨.ref C :: us, kw⟩)).guards = A.guards := by
  first | rfl | simp [Around.under, Code.guards, Code.isGuard, guardIds, pushGuards]
theorem run_gmake {pins : List (Addr × Obj)} {σ : L2.St} {H : Hp} {s : Shared} {Q : VK} {us : List Value} {kw : List (Str × Value)} (gW : Value → List Value) (gZ : V → List V) (M : Mk X.K C f) (F : Gd X.prog X.w X.K X.mg X.base CX k f fd ps sp) (rm : Room (k + 1) X.A) (gd : X.A.guards = some [])
    (hb : ∀ (s : Shared) (y : Addr), X.K.In s.heap → BindsTo s fd ⟨.ref y :: us, kw⟩ (ps.zip (gW (.ref y)))) (hv : ∀ y : Addr, Vals (gZ (.ref y)) (gW (.ref y)))
    (hx : Passes CX X E) (I : Inv X pins σ H s)
    (h : ∀ y dy, H y = none → H dy = none → dy ≠ y → sp (gZ (.ref y)) (upd (upd H dy (.own y)) y (.ins C dy [])) (fun v H2 => v = .non ∧ Q (.ref y) H2) E) :
    wpAny (model X.prog X.w) X.A (call (.ref C) us kw) (EP X pins σ Q) X.xe s := by
  have hq := h (s.heap.objs.size + 1) s.heap.objs.size (I.hok.fresh (Nat.le_succ _)) (I.hok.fresh (Nat.le_refl _)) (Nat.ne_of_lt (Nat.lt_succ_self _))
  have J := Inv.made (C := C) I
  refine wpAny_call (make_map (f := f) I.kIn M.makes M.init (beq_iff_eq.mp M.fn) (codeAny_mono (F.go _ X.stack _ _ ⟨Value.ref (s.heap.objs.size + 1) :: us, kw⟩ _ _ _ E (rm.make C us kw)
    (und_make.trans gd) (J.env0.make C us kw) (hb _ (s.heap.objs.size + 1) J.kIn) (hv _) hq) fun out s' hq' => ?_))
  match out, hq' with
  | .error e, hq' => exact hx pins σ _ _ e s' J hq'
  | .ok (.ret u), hq' =>
    obtain ⟨v, H', I3, rv, ev, q3⟩ := J.after hq'
    subst ev
    exact ⟨rv, ⟨V.ref (s.heap.objs.size + 1), H', I3, rfl, q3⟩⟩
/-- C(e, ..) -/
theorem pe_gmake (M : Mk X.K C f) (F : Gd X.prog X.w X.K X.mg X.base CX k f fd ps sp) (rm : Room (k + 1) X.A) (gd : X.A.guards = some []) (gl : Gl X x) (at_ : X.mg x = some (.ref C)) (hb : Binds X.K fd ps ds) (hd : Vals dvs ds) (hx : Passes CX X E)
    (ha : PA X (e :: es) t) (hdb : (x == ("__debug__" : Str)) = false := by decide) (he : starEach (e :: es) X.env = (false, eval e X.env) :: starEach es X.env := by rfl) (hpl : (backTo pos (starEach es X.env)).any (·.1) = false := by rfl) :
    PE X (.Call (.Name x p) (e :: es) [] pos) (tMake C sp dvs E t) := by
  refine ⟨fun pins s σ H Q I h => wpAny_Call_Name_kw (ld_glob I gl at_ (PySem.W.callWith_K (h₀ := X.base) I.ok.mod.kin M.kp (thn (ha.run pos pins s σ H _ I h) fun us s1 ⟨vs, H1, J, r, q⟩ => ⟨J.kIn, ?_⟩) he hpl) hdb)⟩
  have rr : ∀ y : Addr, Vals (V.ref y :: vs ++ dvs) (Value.ref y :: us ++ ds) := fun y => .cons rfl (r.append hd)
  have hl : ∀ y : Addr, (Value.ref y :: us ++ ds).length = ps.length := fun y => by
    have e := (rr y).length
    have q1 := q (s1.heap.objs.size + 1) s1.heap.objs.size (J.hok.fresh (Nat.le_succ _)) (J.hok.fresh (Nat.le_refl _)) (Nat.ne_of_lt (Nat.lt_succ_self _))
    have e1 := F.len _ _ _ _ q1
    rw [← e, ← e1]
    simp
  exact run_gmake (fun y => y :: us ++ ds) (fun y => y :: vs ++ dvs) M F rm gd (fun s y KX => hb s (.ref y :: us) KX (hl y)) rr hx J q
/-- C(k = v, ..) -/
def tMakeKG (C : Addr) (j : Nat) (sp : Sp) (gV : List V → List V → List V) (E : XK) (tk : TA) : TE := fun σ H Q => tk σ H fun zs H2 => zs.length = j ∧
  ∀ x dx, H2 x = none → H2 dx = none → dx ≠ x → sp (gV [.ref x] zs) (upd (upd H2 dx (.own x)) x (.ins C dx [])) (fun v H3 => v = .non ∧ Q (.ref x) H3) E
theorem pe_gmakeK (M : Mk X.K C f) (F : Gd X.prog X.w X.K X.mg X.base CX k f fd ps sp) (rm : Room (k + 1) X.A) (gd : X.A.guards = some []) (gl : Gl X x) (at_ : X.mg x = some (.ref C)) (hb : KBn X.K fd ps 1 ks g gV) (hx : Passes CX X E)
    (hkw : PK X kws tk) (hall : (backToKw pos (keywordEach kws X.env)).all (·.1.isSome) = true := by rfl) (hks : (backToKw pos (keywordEach kws X.env)).filterMap (·.1) = ks := by rfl)
    (hdb : (x == ("__debug__" : Str)) = false := by decide)
    (hpl : ((backTo pos (starEach [] X.env)).any (·.1) || (backToKw pos (keywordEach kws X.env)).any (·.1.isNone)) = false := by rfl) :
    PE X (.Call (.Name x p) [] kws pos) (tMakeKG C ks.length sp gV E tk) := by
  refine ⟨fun pins s σ H Q I h => wpAny_Call_Name_kw (ld_glob I gl at_ (PySem.W.callWith_KW0 (first := []) (h₀ := X.base) I.ok.mod.kin M.kp hall (thn (hkw.run pos pins s σ H _ I h) fun ws s2 ⟨zs, H2, J, rz, lz, q2⟩ => ⟨J.kIn, ?_⟩) hpl) hdb)⟩
  rw [hks]
  exact run_gmake (us := []) (fun y => g [y] ws) (fun y => gV [y] zs) M F rm gd (fun s y KX => hb.to s [.ref y] ws KX rfl (rz.length.symm.trans lz)) (fun y => hb.rel (.cons rfl .nil) rz) hx J q2
end
end KG

set_option Elab.async false
set_option linter.all false
set_option maxRecDepth 100000
set_option maxHeartbeats 4000000
/-! KR: the end of a law over such promises; repr of data, str of an own object, == and != by an own __eq__. -/
namespace KG
open PySem PySem.Spec PyProof.Rows L2

/-! ### the end: the law's def is called where nothing is shown -/
theorem law_gd {P : Program} {w : World} {K : PySem.W.Frag} {mg mb : Str → Option Value} {CX : CXT} {k : Nat} {fa a : Addr} {fd : FuncData} {x : Str} {sp : Sp} {s1 : Shared} {vs : List Value} {ns : List Int}
    (kin : K.In s1.heap) (nsm : s1.heap.Ns mainGlobals mg) (nsb : s1.heap.Ns builtinsNs mb) (mbb : ∀ x : Str, x ≠ "__name__" → mb x = bootBuiltins x) (lim : s1.heap.NoLimit) (nog : s1.gens = #[])
    (atA : s1.heap.get? a = some { cls := .type "list", data := .seq vs.toArray }) (isn : IntsAre vs ns) (small : ns.length ≤ sizeLine) (rm : Room k callerA)
    (F : ∀ base : Heap, K.In base → base.Ns mainGlobals mg → Gd P w K mg base CX k fa fd [x] sp) (bt : ∀ (s : Shared) (u : Value), BindsTo s fd ⟨[u], []⟩ [(x, u)])
    (start_ : ∀ H : Hp, Only H → SqL K H a (ns.map V.int) → sp [.ref a] H (fun v _ => v = .bl true) fun _ _ _ => False)
    (quiet : ∀ H e s', CX [] H s1 (fun _ _ _ => False) e s' → False) :
    codeAny (model P w) callerA (.call (.ref fa) ⟨[.ref a], []⟩) (fun r s' => r = .ok (.ret (.bool true)) ∧ OldK s1.heap s'.heap ∧ s'.os = s1.os ∧ AllBare s'.gens) s1 := by
  have rv := vals_ints isn
  have vlen := isn.length
  have from_ : ∀ H : Hp, Only H → SqL K H a (ns.map V.int) → HOk P w H s1.heap → (∀ b, H b ≠ none → b = a) → (H a ≠ none → K.lookup a = none) →
      codeAny (model P w) callerA (.call (.ref fa) ⟨[.ref a], []⟩) (fun r s' => r = .ok (.ret (.bool true)) ∧ OldK s1.heap s'.heap ∧ s'.os = s1.os ∧ AllBare s'.gens) s1 := by
    intro H only sq hok onlyA notK
    have free_of : ∀ {b : Addr} {o : Obj}, (H b ≠ none → b = a → False) → H b = none := fun {b o} h => by
      by_cases z : H b = none
      · exact z
      · exact (h z (onlyA b z)).elim
    have dict_free : ∀ {b : Addr} {o : Obj} {es : Array DictEntry} {ep : Nat}, s1.heap.get? b = some o → o.data = .dict es ep → H b = none := fun {b o es ep} e d =>
      free_of (o := o) fun _ eb => by
        rw [eb, atA] at e
        cases e
        exact nomatch d
    have ns_hid : ∀ {b : Addr} {m : Str → Option Value}, s1.heap.Ns b m → (hidT s1.heap H).Ns b m :=
      fun {b m} ⟨o, es, ep, e, d, r⟩ => ⟨o, es, ep, hidT_get e (dict_free e d), d, r⟩
    have kin_hid : K.In (hidT s1.heap H) := fun b o e => hidT_get (kin b o e) (free_of (o := o) fun z eb => by
      rw [eb] at e z
      rw [notK z] at e
      cases e)
    have mod : Mod K mg (hidT s1.heap H) := ⟨kin_hid, ns_hid nsm, ⟨mb, ns_hid nsb, mbb⟩, lim.elim fun mc h => ⟨mc, ns_hid h.1, h.2⟩⟩
    have e0 : Env0 P w K mg (hidT s1.heap H) callerA [] s1 H := ⟨rfl, mod, fun b o e => of_hidT e, Nat.le_of_eq (hidT_size _ _), trivial, fun b hb => absurd (show b ∈ ([] : List Addr) from hb) List.not_mem_nil, hok, .of_eq nog⟩
    refine codeAny_mono ((F _ kin_hid (ns_hid nsm)).go callerA [] s1 H ⟨[.ref a], []⟩ [.ref a] [.ref a] _ _ rm rfl e0 (bt s1 (.ref a)) (.cons rfl .nil) (start_ H only sq)) fun r s' h => ?_
    match r, h with
    | .error e, h => exact (quiet H e s' h).elim
    | .ok (.ret u), h =>
      obtain ⟨v, H', os, bare, un, hok', r', q⟩ := h
      have q' : v = .bl true := q
      subst q'
      obtain rfl : u = Value.bool true := r'
      refine ⟨rfl, OldK.of_keep fun b o e => ?_, os, bare⟩
      cases z : H b with
      | none => exact un.keep b o e z (by intro y; cases y) (by simp)
      | some t =>
        rcases only b with y | ⟨ob, xs, y⟩
        · rw [z] at y
          cases y
        · have y2 := un.frzs b ob _ y
          obtain ⟨g1, _⟩ := hok b _ y
          obtain ⟨g2, _⟩ := hok' b _ y2
          rw [e] at g1
          cases g1
          exact g2
  cases hk : K.lookup a with
  | some o =>
    have e := kin a o hk
    rw [atA] at e
    cases e
    exact from_ (fun _ => none) (fun _ => .inl rfl) (.inr ⟨_, vs.toArray, _, hk, rfl, rfl, rfl, by rw [List.size_toArray, vlen]; exact small, by simpa using rv⟩) (fun b u z => by cases z) (fun b z => absurd rfl z) fun z => absurd rfl z
  | none =>
    have at_a : ∀ {b : Addr} {u : HO}, (if b = a then some (HO.frz { cls := .type "list", data := .seq vs.toArray } (.lst (ns.map V.int))) else none) = some u → b = a := fun {b u} z => by
      by_cases hb : b = a
      · exact hb
      · rw [if_neg hb] at z
        cases z
    refine from_ (fun b => if b = a then some (.frz { cls := .type "list", data := .seq vs.toArray } (.lst (ns.map V.int))) else none) (fun b => ?_) (.inl (.inr ⟨{ cls := .type "list", data := .seq vs.toArray }, if_pos rfl⟩)) (fun b u z => ?_) (fun b z => ?_) fun _ => hk
    · by_cases hb : b = a
      · exact .inr ⟨_, _, if_pos hb⟩
      · exact .inl (if_neg hb)
    · obtain rfl := at_a z
      have z' := (if_pos rfl).symm.trans z
      cases z'
      exact ⟨atA, by rw [List.length_map]; exact small, vs, _, rv, atA⟩
    · by_cases hb : b = a
      · exact hb
      · exact absurd (if_neg hb) z

/-- the law's walk, from its promise where nothing is shown -/
theorem walk_gd {l : PySem.W.OpenLaw} {n k : Nat} {q : Program} {loose : List Str} {XP : (Str → Option Value) → Heap → Prop} {YP : World → Heap → Prop} {d : DefRec} {K : Params → PySem.W.Frag} {CX : World → CXT} {sp : World → Sp} {x : Str}
    (most : l.most = some n) (n2 : n ≤ sizeLine) (nod : d.params.defaults = []) (rm : Room k callerA)
    (hY : ∀ (w : World) (h : Heap), YP w h → (K w.params).In h)
    (F : ∀ (w : World) (mg : Str → Option Value) (fa : Addr) (h : Heap), (K w.params).In h → h.Ns mainGlobals mg → mg d.name = some (.ref fa) →
      ∃ fd : FuncData, (∀ (s : Shared) (u : Value), BindsTo s fd ⟨[u], []⟩ [(x, u)]) ∧
        ∀ base : Heap, (K w.params).In base → base.Ns mainGlobals mg → Gd l.prog w (K w.params) mg base (CX w) k fa fd [x] (sp w))
    (start_ : ∀ (w : World) (H : Hp) (a : Addr) (ns : List Int), ns.length ≤ n → Only H → SqL (K w.params) H a (ns.map V.int) → sp w [.ref a] H (fun v _ => v = .bl true) fun _ _ _ => False)
    (quiet : ∀ (w : World) (H : Hp) (s : Shared) (e : Value) (s' : Shared), CX w [] H s (fun _ _ _ => False) e s' → False) :
    PySem.W.WalkO q loose XP YP l.row.toRowW d [] (fun f vs => PySem.call f vs) := by
  refine Att.attach_call most nod fun w s0 s1 mg mb fa o pm cd doc a vs ns G Y ho hd hcd hmg hobj hints hlen hg => ?_
  have kin := hY w _ Y
  obtain ⟨fd, hb, hF⟩ := F w mg fa _ kin G.T.g hmg
  exact law_gd kin G.T.g G.T.b G.T.builtins G.T.nolimit hg hobj hints (Nat.le_trans hlen n2) rm hF hb (fun H hO hS => start_ w H a ns hlen hO hS) fun H e s' => quiet w H s1 e s'

/-- .. where the promise hangs on the written part alone -/
theorem walk_gdK {l : PySem.W.OpenLaw} {n k : Nat} {q : Program} {loose : List Str} {XP : (Str → Option Value) → Heap → Prop} {YP : World → Heap → Prop} {d : DefRec} {K : Params → PySem.W.Frag} {CX : CXT} {sp : PySem.W.Frag → Sp} {x : Str}
    (most : l.most = some n) (n2 : n ≤ sizeLine) (nod : d.params.defaults = []) (rm : Room k callerA)
    (hY : ∀ (w : World) (h : Heap), YP w h → (K w.params).In h)
    (F : ∀ (w : World) (mg : Str → Option Value) (fa : Addr) (h : Heap), (K w.params).In h → h.Ns mainGlobals mg → mg d.name = some (.ref fa) →
      ∃ fd : FuncData, (∀ (s : Shared) (u : Value), BindsTo s fd ⟨[u], []⟩ [(x, u)]) ∧
        ∀ base : Heap, (K w.params).In base → base.Ns mainGlobals mg → Gd l.prog w (K w.params) mg base CX k fa fd [x] (sp (K w.params)))
    (start_ : ∀ (K : PySem.W.Frag) (H : Hp) (a : Addr) (ns : List Int), ns.length ≤ n → Only H → SqL K H a (ns.map V.int) → sp K [.ref a] H (fun v _ => v = .bl true) fun _ _ _ => False)
    (quiet : ∀ (H : Hp) (s : Shared) (e : Value) (s' : Shared), CX [] H s (fun _ _ _ => False) e s' → False) :
    PySem.W.WalkO q loose XP YP l.row.toRowW d [] (fun f vs => PySem.call f vs) :=
  walk_gd (K := K) (CX := fun _ => CX) (sp := fun w => sp (K w.params)) most n2 nod rm hY F (fun w H a ns h1 h2 h3 => start_ (K w.params) H a ns h1 h2 h3) fun _ H s e s' => quiet H s e s'

/-! ### repr of data -/
section
variable {X : Cx}
/-- repr(x), x data: none, bools, ints, texts, lists, tuples -/
def rRepr (K : PySem.W.Frag) : List V → Hp → VK → Prop := fun xs H Q => ∃ x d, xs = [x] ∧ Dp K H x d ∧ d.showable = true ∧ d.hasDict = false ∧ d.depth ≤ 40 ∧ d.shown.length ≤ sizeLine ∧ Q (.str d.shown) H
theorem call_repr {k : Nat} (rm : Room k X.A) (gd : X.A.guards = some []) : CallR X (.builtin "repr") (rRepr X.K) := by
  intro pins s σ H xs us Q I r h
  obtain ⟨x, d, rfl, hd, sh, nd, dp, sz, q⟩ := h
  obtain ⟨u, rfl, r1⟩ := vals1 r
  obtain ⟨as, rd⟩ := Dp.reads I d x u hd r1
  have room := rm.units
  have fin : ∀ (s' : Shared) (tk : Tok), Inv X pins σ H s' → EP X pins σ Q (.str d.shown tk) s' := fun s' tk J => ⟨.str d.shown, H, J, ⟨tk, rfl⟩, q⟩
  have intsz : ∀ i : Int, d = .int i → i.natAbs.log2 < 1920 := fun i e => by
    subst e
    simpa [PyData.showable] using sh
  cases hd with
  | non =>
    cases r1
    rw [PyData.shown_none] at q
    exact PySem.P.repr_of_none ⟨.str _, H, I.tok _, ⟨_, rfl⟩, q⟩
  | bl b =>
    cases r1
    rw [PyData.shown_bool] at q
    exact PySem.P.repr_of_bool ⟨.str _, H, I.tok _, ⟨_, rfl⟩, by cases b <;> exact q⟩
  | int i =>
    obtain ⟨t, rfl⟩ := r1
    rw [PyData.shown_int] at q
    exact PySem.P.repr_of_int (intsz i rfl) ⟨.str _, H, I.tok _, ⟨_, rfl⟩, q⟩
  | str z =>
    obtain ⟨t, rfl⟩ := r1
    rw [PyData.shown_str] at q sz
    exact PySem.P.repr_of_str ⟨.str _, H, I.tok _, ⟨_, rfl⟩, q⟩ sz
  | lst _ _ =>
    cases r1
    exact repr_of_reads' rd sh (fun z => by rw [nd] at z; cases z) gd (by omega) (fun _ _ z => z) (fun h' u tk keep => fin _ _ (I.kept (t' := tk) keep)) sz
  | tup _ _ =>
    cases r1
    exact repr_of_reads' rd sh (fun z => by rw [nd] at z; cases z) gd (by omega) (fun _ _ z => z) (fun h' u tk keep => fin _ _ (I.kept (t' := tk) keep)) sz
end

/-! ### str(o), o an own object with its own __str__ -/
section
variable {X : Cx} {CX : CXT} {k : Nat} {f C : Addr} {fd : FuncData} {ps : List Str} {sp : Sp} {E : XK}
theorem in1_gd {A : Around} (h : A.guards = some []) : A.in1.guards = some [] := h
def rStrO (C : Addr) (sp : Sp) (E : XK) : List V → Hp → VK → Prop := fun xs H Q => ∃ a dx fs, xs = [.ref a] ∧ H a = some (.ins C dx fs) ∧ sp [.ref a] H (fun v H' => ∃ z, v = .str z ∧ Q (.str z) H') E
theorem call_strO (F : Gd X.prog X.w X.K X.mg X.base CX k f fd ps sp) (rm : Room (k + 2) X.A) (gd : X.A.guards = some []) (hs : PySem.W.findIn X.K (.ref C) "__str__" = some (some (.ref f))) (hf : PySem.W.isFn X.K (.ref f) = true)
    (hb : Binds X.K fd ps []) (hx : Passes CX X E) : CallR X (.type "str") (rStrO C sp E) := by
  intro pins s σ H xs us Q I r h
  obtain ⟨a, dx, fs, rfl, ea, q⟩ := h
  obtain ⟨u, rfl, r1⟩ := vals1 r
  obtain rfl : u = Value.ref a := r1
  obtain ⟨mA, J, _⟩ := ins_get I.hok ea
  obtain ⟨od, J, _⟩ := J.look
  have room := rm.units
  refine PySem.W.kso_call (by show X.A.units + 1 + 1 < cLine; omega) I.kIn J hs hf ?_
  have r2 : Vals [V.ref a] [Value.ref a] := .cons rfl .nil
  have bt := bind_pos (dvs := []) (vs := [V.ref a]) F hb .nil I.kIn r2 q
  refine wpAny_mono (run_at (us := [.ref a]) F rm.in1.in1 (in1_gd (in1_gd gd)) I.env0.in1.in1 (fun e s' hq => hx pins σ H s e s' I hq) I bt r2 q) (fun v s' hv => ?_) fun _ _ z => z
  obtain ⟨z, H', J', rz, y, ey, q'⟩ := hv
  subst ey
  obtain ⟨t, rfl⟩ := rz
  exact ⟨.str y, H', J', ⟨t, rfl⟩, q'⟩

/-! ### == and != by an own __eq__ -/
theorem ne_bound {M : Model} {A : Around} {W : Value → Shared → Prop} {s : Shared} {K : PySem.W.Frag} {x C : Addr} {ox : Obj} {od : Option Obj} {args : List Value} {Q : Option Value → Shared → Prop} (kin : K.In s.heap) (J : PySem.W.InstAt s.heap x ox C od)
    (hs : PySem.W.findIn K (.ref C) "__ne__" = some (some (.builtin "object.__ne__"))) (h : wpAny M A (call (.builtin "object.__ne__") (.ref x :: args)) (fun v => Q (some v)) W s) :
    wpAny M A (callSpecialIfBound? (.ref x) "__ne__" args) Q W s := by
  simp only [callSpecialIfBound?, bindSpecialIfBound?]
  refine wpAny_holding (wpAny_bind (wpAny_bind (wpAny_bind (J.type.here ((PySem.W.looks_findIn kin hs).here ?_)))))
  refine wpAny_bind (wpAny_askSetting (wpAny_ite ?_))
  have last : wpAny M A (call (.builtin "object.__ne__") ([.ref x] ++ args) >>= fun v => pure (some v)) Q W s :=
    wpAny_bind (wpAny_mono h (fun v s' z => wpAny_pure z) fun _ _ z => z)
  split
  · exact wpAny_bind (wpAny_of_eq (F.cmp_object.ne.bind _) (wpAny_pure (by exact last)))
  · exact wpAny_tryCatch (wpAny_bind (wpAny_of_eq (F.cmp_object.ne.bind _) (wpAny_pure (by exact last))))
theorem ne_own {prog : Program} {w : World} {A : Around} {W : Value → Shared → Prop} {s : Shared} {K : PySem.W.Frag} {x C f : Addr} {ox : Obj} {od : Option Obj} {b tb : Value} {Q : Value → Shared → Prop} (hu : A.units + 1 < cLine) (kin : K.In s.heap) (J : PySem.W.InstAt s.heap x ox C od)
    (hb : PySem.W.Looks (model prog w) s.heap (typeOf b) tb) (hn : PySem.W.notFirst K C tb = true) (hm : PySem.W.mroIn K C (.type "object") = some true)
    (hs : PySem.W.findIn K (.ref C) "__ne__" = some (some (.builtin "object.__ne__"))) (he : PySem.W.findIn K (.ref C) "__eq__" = some (some (.ref f))) (hf : PySem.W.isFn K (.ref f) = true)
    (h : wpAny (model prog w) A.in1 (call (.ref f) [.ref x, b]) (fun v s' => ∃ c, v = .bool c ∧ Q (.bool (!c)) s') W s) : wpAny (model prog w) A (richCompare .NotEq (.ref x) b) Q W s := by
  have one : wpAny (model prog w) A (tryCompare (.ref x) "__ne__" b) (fun r s' => ∃ v, r = some v ∧ Q v s') W s := by
    unfold tryCompare
    refine wpAny_bind (ne_bound kin J hs (wpAny_call (codeAny_call_builtin F.cmp_object.ne.plain F.cmpEntry_ne
      (PySem.W.check_slot F.cmpKind_ne F.cmpSplit_ne (J.type.andThen (PySem.W.looks_mroIn kin hm)) (F.cmpArgs_ne _ _) ?_))))
    show wpAny _ _ (Builtin.«object.__ne__» ⟨[.ref x, b], []⟩) _ _ s
    unfold Builtin.«object.__ne__»
    refine wpAny_bind (m := slotArgs "__ne__" 1 _) (wpAny_pure ?_)
    refine wpAny_bind (wpAny_cRoomFor (by show A.units + 1 < cLine; omega) ?_)
    refine wpAny_bind (m := callSpecialIfBound? (.ref x) (Str.ofString "__eq__") [b]) (PySem.W.ifBound_K kin J he hf (wpAny_mono h (fun v s' hv => ?_) fun _ _ z => z))
    obtain ⟨c, rfl, q⟩ := hv
    refine wpAny_bind (wpAny_truthy_bool ?_)
    exact wpAny_pure (wpAny_pure ⟨_, rfl, q⟩)
  unfold richCompare
  simp only [oneThing_ref]
  refine wpAny_holding (wpAny_bind (wpAny_cRoomFor (by omega) ?_))
  refine wpAny_bind (J.type.here (wpAny_bind (hb.here ?_)))
  split
  · rename_i q
    have e : PySem.W.subIn K tb (.ref C) = some false := by
      rcases Bool.or_eq_true_iff.mp hn with e | e
      · rw [beq_iff_eq.mp e] at q
        simp at q
      · exact beq_iff_eq.mp e
    refine wpAny_bind ((PySem.W.looks_subIn kin e).here ?_)
    simp only [Bool.false_eq_true, if_false]
    refine wpAny_bind (m := tryCompare (.ref x) _ b) (wpAny_mono one (fun r s' z => ?_) fun _ _ e => e)
    obtain ⟨v, rfl, hq⟩ := z
    exact wpAny_pure hq
  · refine wpAny_bind (wpAny_pure ?_)
    simp only [Bool.false_eq_true, if_false]
    refine wpAny_bind (m := tryCompare (.ref x) _ b) (wpAny_mono one (fun r s' z => ?_) fun _ _ e => e)
    obtain ⟨v, rfl, hq⟩ := z
    exact wpAny_pure hq

/-- o == y, o != y: the own __eq__ answers (y: the same class, or a thing whose type is no class below it) -/
def rEqO (K : PySem.W.Frag) (C : Addr) (neg : Bool) (sp : Sp) (E : XK) : R2 := fun x y H Q => ∃ a dx fs t, x = .ref a ∧ H a = some (.ins C dx fs) ∧ TyX K H y t ∧ PySem.W.notFirst K C t = true ∧
  sp [.ref a, y] H (fun v H' => ∃ c, v = .bl c ∧ Q (.bl (if neg then !c else c)) H') E
theorem op_eqO (F : Gd X.prog X.w X.K X.mg X.base CX k f fd ps sp) (rm : Room k X.A) (gd : X.A.guards = some []) (hs : PySem.W.findIn X.K (.ref C) "__eq__" = some (some (.ref f))) (hf : PySem.W.isFn X.K (.ref f) = true)
    (hb : Binds X.K fd ps []) (hx : Passes CX X E) : OpR X (compareOp .Eq) (rEqO X.K C false sp E) := by
  intro pins s σ H x y v u Q I rx ry h
  obtain ⟨a, dx, fs, t, rfl, ea, ty, nf, q⟩ := h
  obtain rfl : v = Value.ref a := rx
  obtain ⟨mA, J, _⟩ := ins_get I.hok ea
  obtain ⟨od, J, _⟩ := J.look
  obtain ⟨m, fr⟩ := I.fr
  obtain ⟨_, Z, pz, _⟩ := kit_of I ry ty
  have r2 : Vals [V.ref a, y] [Value.ref a, u] := .cons rfl (.cons ry .nil)
  have bt := bind_pos (dvs := []) (vs := [V.ref a, y]) F hb .nil I.kIn r2 q
  refine PySem.W.cmp_K (op := .Eq) rm.units0 fr I.ok.mod.kin J (Z.ty _ _ I.kIn pz) nf hs hf ?_
  refine wpAny_mono (run_g (us := [.ref a, u]) F rm gd hx I bt r2 q) (fun v s' hv => ?_) fun _ _ z => z
  obtain ⟨z, H', J', rz, c, ez, q'⟩ := hv
  subst ez
  obtain rfl : v = Value.bool c := rz
  exact ⟨.bl c, H', J', rfl, q'⟩
theorem op_neO (F : Gd X.prog X.w X.K X.mg X.base CX k f fd ps sp) (rm : Room (k + 1) X.A) (gd : X.A.guards = some []) (hs : PySem.W.findIn X.K (.ref C) "__eq__" = some (some (.ref f))) (hf : PySem.W.isFn X.K (.ref f) = true)
    (hn : PySem.W.findIn X.K (.ref C) "__ne__" = some (some (.builtin "object.__ne__"))) (hm : PySem.W.mroIn X.K C (.type "object") = some true)
    (hb : Binds X.K fd ps []) (hx : Passes CX X E) : OpR X (compareOp .NotEq) (rEqO X.K C true sp E) := by
  intro pins s σ H x y v u Q I rx ry h
  obtain ⟨a, dx, fs, t, rfl, ea, ty, nf, q⟩ := h
  obtain rfl : v = Value.ref a := rx
  obtain ⟨mA, J, _⟩ := ins_get I.hok ea
  obtain ⟨od, J, _⟩ := J.look
  obtain ⟨_, Z, pz, _⟩ := kit_of I ry ty
  have r2 : Vals [V.ref a, y] [Value.ref a, u] := .cons rfl (.cons ry .nil)
  have bt := bind_pos (dvs := []) (vs := [V.ref a, y]) F hb .nil I.kIn r2 q
  have room := rm.units
  refine ne_own (by omega) I.kIn J (Z.ty _ _ I.kIn pz) nf hm hn hs hf ?_
  refine wpAny_mono (run_at (us := [.ref a, u]) F rm.in1 (in1_gd gd) I.env0.in1 (fun e s' hq => hx pins σ H s e s' I hq) I bt r2 q) (fun v s' hv => ?_) fun _ _ z => z
  obtain ⟨z, H', J', rz, c, ez, q'⟩ := hv
  subst ez
  obtain rfl : v = Value.bool c := rz
  exact ⟨c, rfl, .bl (!c), H', J', rfl, q'⟩
end
end KG

set_option Elab.async false
set_option linter.all false
set_option maxRecDepth 100000
set_option maxHeartbeats 4000000
/-! KS: defs, methods and classes by name; the readings' steps, one lemma each, for walk_at "go". -/
namespace KG
open PySem PySem.Spec PyProof.Rows L2

/-! ### defs by name -/
/-- how the arguments of a def of the text bind, by place -/
def BindOk (x qual : Str) (st : Stmt) (ps : List Str) : Prop := ∀ (kV doc pm : Value) (an : Option Addr) (cdv ct : Value) (us : List Value), us.length = ps.length →
  bindArgs (PySem.W.fnOf x qual (defArgs st) (defBody st) (defScope st) .none kV doc pm an cdv ct) ⟨us, []⟩ = pure (ps.zip us)
/-- .. n by place, then by keywords, is: the keywords' places -/
def BindOkK (x qual : Str) (st : Stmt) (ps : List Str) (n : Nat) (ks : List Str) (is : List Nat) : Prop := ∀ (kV doc pm : Value) (an : Option Addr) (cdv ct : Value) (us ws : List Value), us.length = n → ws.length = ks.length →
  bindArgs (PySem.W.fnOf x qual (defArgs st) (defBody st) (defScope st) .none kV doc pm an cdv ct) ⟨us, ks.zip ws⟩ = pure (ps.zip (us ++ sel is ws))
/-- the def st stands under the name x -/
structure DefAt (K : PySem.W.Frag) (mg : Str → Option Value) (x : Str) (st : Stmt) (ps : List Str) : Prop where
  ex : ∃ f fd, mg x = some (.ref f) ∧ Fun K x x st f fd ∧ Binds K fd ps []
theorem defAt_of {K : PySem.W.Frag} {h : Heap} {mg : Str → Option Value} (X : K.In h) (G : h.Ns mainGlobals mg) {x : Str} {st : Stmt} {ps : List Str} {f : Addr} {oc kV doc pm cdv ct : Value} {od an : Option Addr} {sl : Array (Option Value)}
    (a : PySem.W.nsIn K mainGlobals x = some (some (.ref f))) (l : K.lookup f = some ⟨oc, od, .func (PySem.W.fnOf x x (defArgs st) (defBody st) (defScope st) .none kV doc pm an cdv ct), sl⟩)
    (c : PySem.W.codeIn K cdv x = true) (k : PySem.W.keepIn K (.ref f) = true) (b : BindOk x x st ps) : DefAt K mg x st ps :=
  have F := fun_mk (st := st) l c k
  ⟨⟨f, _, PySem.W.mg_of X G a, F, F.binds b⟩⟩
/-- the method st of the class at C -/
structure MetAt (K : PySem.W.Frag) (C : Addr) (m qual : Str) (st : Stmt) (ps : List Str) (f : Addr) : Prop where
  ex : ∃ fd, Meth K C m f ∧ Fun K m qual st f fd ∧ Binds K fd ps []
theorem metAt_of {K : PySem.W.Frag} {C : Addr} {m qual : Str} {st : Stmt} {ps : List Str} {f : Addr} {oc kV doc pm cdv ct : Value} {od an : Option Addr} {sl : Array (Option Value)}
    (a : PySem.W.findIn K (.ref C) m = some (some (.ref f))) (i : PySem.W.isFn K (.ref f) = true) (l : K.lookup f = some ⟨oc, od, .func (PySem.W.fnOf m qual (defArgs st) (defBody st) (defScope st) .none kV doc pm an cdv ct), sl⟩)
    (c : PySem.W.codeIn K cdv qual = true) (k : PySem.W.keepIn K (.ref f) = true) (b : BindOk m qual st ps) : MetAt K C m qual st ps f :=
  have F := fun_mk (st := st) l c k
  ⟨⟨_, ⟨a, i, k⟩, F, F.binds b⟩⟩
/-- the def st, promised sp, nothing raised -/
def Cal (P : Program) (w : World) (K : PySem.W.Frag) (mg : Str → Option Value) (base : Heap) (j : Nat) (x : Str) (sp : Sp) : Prop :=
  ∃ f fd ps, mg x = some (.ref f) ∧ PySem.W.keepIn K (.ref f) = true ∧ Binds K fd ps [] ∧ Gd P w K mg base CX0 j f fd ps sp
def Met (P : Program) (w : World) (K : PySem.W.Frag) (mg : Str → Option Value) (base : Heap) (j : Nat) (C : Addr) (m : Str) (f : Addr) (sp : Sp) : Prop :=
  ∃ fd ps, Meth K C m f ∧ Binds K fd ps [] ∧ Gd P w K mg base CX0 j f fd ps sp
def MetK (P : Program) (w : World) (K : PySem.W.Frag) (mg : Str → Option Value) (base : Heap) (j : Nat) (C : Addr) (m : Str) (f : Addr) (ks : List Str) (is : List Nat) (sp : Sp) : Prop :=
  ∃ fd ps, Meth K C m f ∧ KBn K fd ps 1 ks (fun us ws => us ++ sel is ws) (fun vs zs => vs ++ sel is zs) ∧ Gd P w K mg base CX0 j f fd ps sp
section
variable {P : Program} {w : World} {K : PySem.W.Frag} {mg : Str → Option Value} {base : Heap} {k : Nat} {x m qual : Str} {st : Stmt} {ps N : List Str} {sp : Sp} {C f : Addr}
/-- a def by its body -/
theorem DefAt.cal (D : DefAt K mg x st ps) (sc : FnScope N ps (defScope st)) (len : ∀ vs H Q E, sp vs H Q E → vs.length = ps.length)
    (inner : ∀ (f : Addr) (cdv : Value) (A : Around) (outer : List Env) (s : Shared) (H : Hp) (vs : List V) (Q : VK) (E : XK),
      Room k (A.deeper (envOfC x (defScope st) s.heap.objs.size f cdv)) → (A.deeper (envOfC x (defScope st) s.heap.objs.size f cdv)).guards = some [] → sp vs H Q E →
      ∃ t, PSs (cxOf CX0 P w K mg base N x (defScope st) f cdv A outer s H E).nox (defBody st) t ∧ t { nx := fun _ H' => Q .non H', rt := Q } (start N vs) H) :
    Cal P w K mg base (k + 1) x sp := by
  obtain ⟨f, fd, a, F, b⟩ := D.ex
  exact ⟨f, fd, ps, a, F.kp, b, gd0 F sc len (inner f)⟩
theorem MetAt.gd (D : MetAt K C m qual st ps f) (sc : FnScope N ps (defScope st)) (len : ∀ vs H Q E, sp vs H Q E → vs.length = ps.length)
    (inner : ∀ (cdv : Value) (A : Around) (outer : List Env) (s : Shared) (H : Hp) (vs : List V) (Q : VK) (E : XK),
      Room k (A.deeper (envOfC qual (defScope st) s.heap.objs.size f cdv)) → (A.deeper (envOfC qual (defScope st) s.heap.objs.size f cdv)).guards = some [] → sp vs H Q E →
      ∃ t, PSs (cxOf CX0 P w K mg base N qual (defScope st) f cdv A outer s H E).nox (defBody st) t ∧ t { nx := fun _ H' => Q .non H', rt := Q } (start N vs) H) :
    ∃ fd, Meth K C m f ∧ Fun K m qual st f fd ∧ Binds K fd ps [] ∧ Gd P w K mg base CX0 (k + 1) f fd ps sp := by
  obtain ⟨fd, a, F, b⟩ := D.ex
  exact ⟨fd, a, F, b, gd0 F sc len inner⟩
end
section
variable {X : Cx} {j k : Nat} {x m qual : Str} {sp : Sp} {C f : Addr} {p pos apos : Pos} {e o : Expr} {es : List Expr} {kws : List Keyword} {ta te : TE} {t tk : TA} {ks : List Str} {is : List Nat} {pl : Sem Bool}
theorem pc (c : Cal X.prog X.w X.K X.mg X.base j x sp) (rm : Room k X.A) (hk : j ≤ k) (gd : X.A.guards = some []) (gl : Gl X x) (ha : PA X (e :: es) t)
    (hdb : (x == ("__debug__" : Str)) = false := by decide) (he : starEach (e :: es) X.env = (false, eval e X.env) :: starEach es X.env := by rfl) (hpl : (backTo pos (starEach es X.env)).any (·.1) = false := by rfl) :
    PE X (.Call (.Name x p) (e :: es) [] pos) (tCall sp [] E0 t) := by
  obtain ⟨f, fd, ps, a, kp, b, F⟩ := c
  exact pe_gcall F (rm.mono hk) gd gl a kp b .nil pass0 ha hdb he hpl
theorem pc0 (c : Cal X.prog X.w X.K X.mg X.base j x sp) (rm : Room k X.A) (hk : j ≤ k) (gd : X.A.guards = some []) (gl : Gl X x)
    (hdb : (x == ("__debug__" : Str)) = false := by decide) : PE X (.Call (.Name x p) [] [] pos) (tCall sp [] E0 tNil) := by
  obtain ⟨f, fd, ps, a, kp, b, F⟩ := c
  exact pe_gcall0 F (rm.mono hk) gd gl a kp b .nil pass0 hdb
theorem pm (c : Met X.prog X.w X.K X.mg X.base j C m f sp) (cl : Cls X.K C) (rm : Room k X.A) (hk : j ≤ k) (gd : X.A.guards = some []) (he : PE X o ta) (ha : PA X (e :: es) t)
    (hst : starEach (e :: es) X.env = (false, eval e X.env) :: starEach es X.env := by rfl) (hpl : (backTo pos (starEach es X.env)).any (·.1) = false := by rfl)
    (ht : eval (.Call (.Attribute o m apos) (e :: es) [] pos) X.env = (do
      let w ← eval o X.env
      standAt apos.atName
      let (g, a) ← holding [w] (getMethod w m pl)
      callWith pos g a (backTo pos (starEach (e :: es) X.env)) (backToKw pos (keywordEach [] X.env))) := by rfl) :
    PE X (.Call (.Attribute o m apos) (e :: es) [] pos) (tMeth C m sp [] E0 ta t) := by
  obtain ⟨fd, ps, hm, b, F⟩ := c
  exact pe_gmeth he cl hm F (rm.mono hk) gd b .nil pass0 ha hst hpl ht
theorem pm0 (c : Met X.prog X.w X.K X.mg X.base j C m f sp) (cl : Cls X.K C) (rm : Room k X.A) (hk : j ≤ k) (gd : X.A.guards = some []) (he : PE X o ta)
    (ht : eval (.Call (.Attribute o m apos) [] [] pos) X.env = (do
      let w ← eval o X.env
      standAt apos.atName
      let (g, a) ← holding [w] (getMethod w m pl)
      callWith pos g a (backTo pos (starEach [] X.env)) (backToKw pos (keywordEach [] X.env))) := by rfl) :
    PE X (.Call (.Attribute o m apos) [] [] pos) (tMeth C m sp [] E0 ta tNil) := by
  obtain ⟨fd, ps, hm, b, F⟩ := c
  exact pe_gmeth0 he cl hm F (rm.mono hk) gd b .nil pass0 ht
theorem pmK (c : MetK X.prog X.w X.K X.mg X.base j C m f ks is sp) (cl : Cls X.K C) (rm : Room k X.A) (hk : j ≤ k) (gd : X.A.guards = some []) (he : PE X o ta) (hkw : PK X kws tk)
    (hall : (backToKw pos (keywordEach kws X.env)).all (·.1.isSome) = true := by rfl) (hks : (backToKw pos (keywordEach kws X.env)).filterMap (·.1) = ks := by rfl)
    (hpl : ((backTo pos (starEach [] X.env)).any (·.1) || (backToKw pos (keywordEach kws X.env)).any (·.1.isNone)) = false := by rfl)
    (ht : eval (.Call (.Attribute o m apos) [] kws pos) X.env = (do
      let w ← eval o X.env
      standAt apos.atName
      let (g, a) ← holding [w] (getMethod w m pl)
      callWith pos g a (backTo pos (starEach [] X.env)) (backToKw pos (keywordEach kws X.env))) := by rfl) :
    PE X (.Call (.Attribute o m apos) [] kws pos) (tMethK C m ks.length sp (fun vs zs => vs ++ sel is zs) E0 ta tk) := by
  obtain ⟨fd, ps, hm, b, F⟩ := c
  exact pe_gmethK he cl hm F (rm.mono hk) gd b pass0 hkw hall hks hpl ht
end

/-! ### ways that meet behind a statement -/
def tMid (t u : TS) : TS := fun D σ H => ∃ M : L2.St → Hp → Prop, t { D with nx := M } σ H ∧ ∀ σ' H', M σ' H' → u D σ' H'
theorem pss_mid {X : Cx} {st : Stmt} {rest : List Stmt} {t u : TS} (h1 : PS X st t) (h2 : PSs X rest u) : PSs X (st :: rest) (tMid t u) := by
  refine ⟨fun pins s σ H D I h => ?_⟩
  obtain ⟨M, a, b⟩ := h
  refine wpAny_execs_cons (thn (h1.run pins s σ H { D with nx := M } I a) fun f s1 q => ?_)
  match f, q with
  | .next, ⟨σ', H', J, q⟩ => exact h2.run pins s1 σ' H' D J (b σ' H' q)
  | .ret v, q => exact q
  | .brk, q => exact q
  | .cont, q => exact q

/-! ### steps -/
/-- what a field's read, a field's store asks -/
def Fld (K : PySem.W.Frag) (f : Str) (x : V) (H : Hp) (Q : VK) : Prop := ∃ a C dx fs v, x = .ref a ∧ H a = some (.ins C dx fs) ∧ Cls K C ∧ NoAttr K C f ∧ fs.lookup f = some v ∧ Q v H
theorem fld {K : PySem.W.Frag} {f : Str} {a C dx : Addr} {fs : List (Str × V)} {v : V} {H : Hp} {Q : VK} (h : H a = some (.ins C dx fs)) (c : Cls K C) (n : NoAttr K C f) (l : fs.lookup f = some v) (q : Q v H) : Fld K f (.ref a) H Q := ⟨a, C, dx, fs, v, rfl, h, c, n, l, q⟩
def SFld (K : PySem.W.Frag) (f : Str) (y x : V) (H : Hp) (QH : Hp → Prop) : Prop := ∃ a C dx fs, x = .ref a ∧ H a = some (.ins C dx fs) ∧ Cls K C ∧ NoAttr K C f ∧ fs.length < 1000 ∧ QH (upd H a (.ins C dx (putF f y fs)))
/-- .. the heap behind it a letter -/
theorem sfld {K : PySem.W.Frag} {f : Str} {a C dx : Addr} {fs gs : List (Str × V)} {y : V} {H : Hp} {QH : Hp → Prop} (h : H a = some (.ins C dx fs)) (c : Cls K C) (n : NoAttr K C f) (l : fs.length < 1000) (e : putF f y fs = gs)
    (q : ∀ H' : Hp, H' a = some (.ins C dx gs) → (∀ b, b ≠ a → H' b = H b) → QH H') : SFld K f y (.ref a) H QH := ⟨a, C, dx, fs, rfl, h, c, n, l, q _ (by rw [← e]; exact upd_same) fun b nb => upd_ne nb⟩
/-- what the making of an instance asks -/
def Make (C : Addr) (sp : Sp) (args : V → List V) (E : XK) (H : Hp) (Q : VK) : Prop := ∀ x dx, H x = none → H dx = none → dx ≠ x → sp (args (.ref x)) (upd (upd H dx (.own x)) x (.ins C dx [])) (fun v H3 => v = .non ∧ Q (.ref x) H3) E
theorem make {C : Addr} {sp : Sp} {args : V → List V} {E : XK} {H : Hp} {Q : VK} (q : ∀ (x dx : Addr) (H' : Hp), H x = none → H' x = some (.ins C dx []) → Same H H' → sp (args (.ref x)) H' (fun v H3 => v = .non ∧ Q (.ref x) H3) E) : Make C sp args E H Q :=
  fun x dx nx ndx _ => q x dx _ nx upd_same fun b o e => by
    rw [upd_ne (ne_of_none e nx), upd_ne (ne_of_none e ndx)]
    exact e
/-- a dict's display, store and read -/
def DAll (p : Addr) (ps : List (V × V)) (Q : VK) (H : Hp) : Prop := H p = some (.dK []) ∧ ∃ kvs : List (Key × V), ps = kvs.map (fun kv => (kV kv.1, kv.2)) ∧ kvs.length ≤ 15 ∧ Q (.ref p) (upd H p (.dK (mergeK [] kvs)))
theorem dall {p : Addr} {ps : List (V × V)} {Q : VK} {H : Hp} {ks : List (Key × V)} (kvs : List (Key × V)) (h : H p = some (.dK [])) (e : ps = kvs.map (fun kv => (kV kv.1, kv.2))) (l : kvs.length ≤ 15) (m : mergeK [] kvs = ks)
    (q : ∀ H' : Hp, H' p = some (.dK ks) → (∀ b, b ≠ p → H' b = H b) → Q (.ref p) H') : DAll p ps Q H := ⟨h, kvs, e, l, q _ (by rw [← m]; exact upd_same) fun b nb => upd_ne nb⟩
def DPutQ (v x y : V) (H : Hp) (QH : Hp → Prop) : Prop := ∃ a H4, x = .ref a ∧ DPut H a y v H4 ∧ QH H4
theorem dput {v : V} {p : Addr} {H : Hp} {QH : Hp → Prop} {kvs ks : List (Key × V)} (k : Key) (h : H p = some (.dK kvs)) (l : kvs.length < sizeLine) (m : putK kvs k v = ks)
    (q : ∀ H' : Hp, H' p = some (.dK ks) → (∀ b, b ≠ p → H' b = H b) → QH H') : DPutQ v (.ref p) (kV k) H QH := ⟨p, _, rfl, DPut.k h l, q _ (by rw [← m]; exact upd_same) fun b nb => upd_ne nb⟩
def DGetQ (x y : V) (H : Hp) (Q : VK) : Prop := ∃ a v, x = .ref a ∧ DGet H a y (some v) ∧ Q v H
theorem dget {v : V} {p : Addr} {H : Hp} {Q : VK} {kvs : List (Key × V)} (k : Key) (h : H p = some (.dK kvs)) (e : valV kvs k = some v) (q : Q v H) : DGetQ (.ref p) (kV k) H Q := ⟨p, v, rfl, by rw [← e]; exact DGet.k h, q⟩
/-- what a for asks -/
def Loop (J : It) (g : TG) (tb : TS) (D : Ends) (σ : L2.St) (H : Hp) : Prop := ∃ W : Nat → Nat → L2.St → Hp → Prop, (∃ m, W 0 m σ H) ∧ ∀ i m σ H, W i m σ H →
  (J.stop i H ∧ D.nx σ H) ∨ (J.go i H ∧ ∃ N : L2.St → Hp → Prop, (∀ σ' H', N σ' H' → ∃ m', m' < m ∧ W (i + 1) m' σ' H') ∧ ∀ x H', J.yld i H x H' → g x σ H' fun σ2 H2 => tb { D with nx := N, ct := N, bk := D.nx } σ2 H2)
def OverT (K : PySem.W.Frag) (x : V) (H : Hp) (R : It → Hp → Prop) : Prop := ∃ a, x = .ref a ∧ (∃ xs, SqT K H a xs) ∧ R (Itt K a) H
theorem over_t {K : PySem.W.Frag} {a : Addr} {xs : List V} {H : Hp} {R : It → Hp → Prop} (h : SqT K H a xs) (q : R (Itt K a) H) : OverT K (.ref a) H R := ⟨a, rfl, ⟨xs, h⟩, q⟩
def OverL (K : PySem.W.Frag) (x : V) (H : Hp) (R : It → Hp → Prop) : Prop := ∃ a, x = .ref a ∧ (∃ xs, SqL K H a xs) ∧ R (Itl K a) H
theorem over_l {K : PySem.W.Frag} {a : Addr} {xs : List V} {H : Hp} {R : It → Hp → Prop} (h : SqL K H a xs) (q : R (Itl K a) H) : OverL K (.ref a) H R := ⟨a, rfl, ⟨xs, h⟩, q⟩
def OverR (vs : List V) (H : Hp) (R : It → Hp → Prop) : Prop := ∃ j : Int, vs = [.int j] ∧ -(2 ^ 62) ≤ j ∧ j < 2 ^ 62 ∧ R (Itr 0 j.toNat) H
theorem over_r {j : Int} {H : Hp} {R : It → Hp → Prop} (h1 : -(2 ^ 62) ≤ j) (h2 : j < 2 ^ 62) (q : R (Itr 0 j.toNat) H) : OverR [.int j] H R := ⟨j, rfl, h1, h2, q⟩
/-- what a method's call asks of the object -/
def Mth (C : Addr) (m : Str) (x : V) (H : Hp) (B : Prop) : Prop := ∃ a dx fs, x = .ref a ∧ H a = some (.ins C dx fs) ∧ fs.lookup m = none ∧ B
theorem mth {C a dx : Addr} {m : Str} {fs : List (Str × V)} {H : Hp} {B : Prop} (h : H a = some (.ins C dx fs)) (l : fs.lookup m = none) (q : B) : Mth C m (.ref a) H B := ⟨a, dx, fs, rfl, h, l, q⟩
/-- a tuple of the written part -/
def KTup (K : PySem.W.Frag) (a : Addr) (xs : List V) : Prop := ∃ (o : Obj) (its : Array Value) (n : Nat), K.lookup a = some o ∧ o.cls = .type "tuple" ∧ o.data = .seq its n ∧ its.size ≤ sizeLine ∧ Vals xs its.toList
theorem KTup.t {K : PySem.W.Frag} {a : Addr} {xs : List V} (h : KTup K a xs) (H : Hp) : SqT K H a xs := .inr h
/-- what a display asks: a new object -/
def New (o : List V → HO) (Q : VK) (xs : List V) (H : Hp) : Prop := xs.length ≤ sizeLine ∧ ∀ p, H p = none → Q (.ref p) (upd H p (o xs))
/-- .. the heap behind it a letter -/
theorem new {o : List V → HO} {Q : VK} {xs : List V} {H : Hp} (h : xs.length ≤ sizeLine) (q : ∀ (p : Addr) (H' : Hp), H p = none → H' p = some (o xs) → Same H H' → Q (.ref p) H') : New o Q xs H :=
  ⟨h, fun p np => q p _ np upd_same fun b u e => by rw [upd_ne (ne_of_none e np)]; exact e⟩
section
variable {σ : L2.St} {H : Hp} {Q : VK} {v : V} {ta tb te : TE} {t u : TS} {D : Ends} {i j : Int} {tc : TT} {QB : Bool → Hp → Prop} {QA : List V → Hp → Prop} {tr : TA} {r : R2}
theorem w_var {n : Nat} (h : σ[n]? = some (some v)) (q : Q v H) : tVar n σ H Q := ⟨v, h, q⟩
theorem w_c (q : Q v H) : tC v σ H Q := q
theorem w_op (q : ta σ H fun x H1 => tb σ H1 fun y H2 => r x y H2 Q) : tOp r ta tb σ H Q := q
theorem w_un {r : V → Hp → VK → Prop} (q : ta σ H fun x H1 => r x H1 Q) : tUn r ta σ H Q := q
theorem w_add (q : Q (.int (i + j)) H) : rI0 (fun i j => .int (i + j)) (.int i) (.int j) H Q := ⟨i, j, rfl, rfl, q⟩
theorem w_sub (q : Q (.int (i - j)) H) : rI0 (fun i j => .int (i - j)) (.int i) (.int j) H Q := ⟨i, j, rfl, rfl, q⟩
theorem w_mul (c : CMul i j) (q : Q (.int (i * j)) H) : rI CMul (fun i j => .int (i * j)) (.int i) (.int j) H Q := ⟨i, j, rfl, rfl, c, q⟩
theorem w_mod (c : 0 < j) (q : Q (.int (i % j)) H) : rI (fun _ j => 0 < j) (fun i j => .int (i % j)) (.int i) (.int j) H Q := ⟨i, j, rfl, rfl, c, q⟩
theorem w_fdiv (c : CDiv i j) (q : Q (.int (i / j)) H) : rI CDiv (fun i j => .int (i / j)) (.int i) (.int j) H Q := ⟨i, j, rfl, rfl, c, q⟩
theorem w_pow (c : CPow i j) (q : Q (.int (i ^ j.toNat)) H) : rI CPow (fun i j => .int (i ^ j.toNat)) (.int i) (.int j) H Q := ⟨i, j, rfl, rfl, c, q⟩
theorem w_and (q : Q (.int (Builtin.bitAnd i j)) H) : rI0 (fun i j => .int (Builtin.bitAnd i j)) (.int i) (.int j) H Q := ⟨i, j, rfl, rfl, q⟩
theorem w_or (q : Q (.int (Builtin.bitOr i j)) H) : rI0 (fun i j => .int (Builtin.bitOr i j)) (.int i) (.int j) H Q := ⟨i, j, rfl, rfl, q⟩
theorem w_xor (q : Q (.int (Builtin.bitXor i j)) H) : rI0 (fun i j => .int (Builtin.bitXor i j)) (.int i) (.int j) H Q := ⟨i, j, rfl, rfl, q⟩
theorem w_gt (q : Q (.bl (decide (j < i))) H) : rI0 (fun i j => .bl (decide (j < i))) (.int i) (.int j) H Q := ⟨i, j, rfl, rfl, q⟩
theorem w_lt (q : Q (.bl (decide (i < j))) H) : rI0 (fun i j => .bl (decide (i < j))) (.int i) (.int j) H Q := ⟨i, j, rfl, rfl, q⟩
theorem w_ge (q : Q (.bl (decide (j ≤ i))) H) : rI0 (fun i j => .bl (decide (j ≤ i))) (.int i) (.int j) H Q := ⟨i, j, rfl, rfl, q⟩
theorem w_le (q : Q (.bl (decide (i ≤ j))) H) : rI0 (fun i j => .bl (decide (i ≤ j))) (.int i) (.int j) H Q := ⟨i, j, rfl, rfl, q⟩
theorem w_eq {x y : V} (s : scal x y = true) (q : Q (.bl (decide (x = y))) H) : rEq x y H Q := ⟨s, q⟩
theorem w_ne {x y : V} (s : scal x y = true) (q : Q (.bl (!decide (x = y))) H) : rNe x y H Q := ⟨s, q⟩
theorem w_test (q : te σ H fun x H' => ∃ k, x = .bl k ∧ QB k H') : tTest te σ H QB := q
theorem w_tB (q : te σ H fun x H' => ∃ k, x = .bl k ∧ QB k H') : tB te σ H QB := q
theorem w_bl {b : Bool} {B : Bool → Prop} (q : B b) : ∃ k, V.bl b = .bl k ∧ B k := ⟨b, rfl, q⟩
theorem w_seq (q : t { D with nx := u D } σ H) : tSeq t u D σ H := q
theorem w_ret (q : te σ H D.rt) : tRet te D σ H := q
theorem w_next (q : D.nx σ H) : tNext D σ H := q
theorem w_asg {g : TG} (q : te σ H fun x H1 => g x σ H1 D.nx) : tAsg te g D σ H := q
theorem w_gname {n : Nat} {QS : L2.St → Hp → Prop} (q : QS (σ.set n (some v)) H) : gName n v σ H QS := q
theorem w_ifs (q : tc σ H fun b H1 => if b = true then t D σ H1 else u D σ H1) : tIfS tc t u D σ H := q
theorem w_ifx (q : tc σ H fun c H1 => if c = true then ta σ H1 Q else tb σ H1 Q) : tIf tc ta tb σ H Q := q
theorem w_nil (q : QA [] H) : tNil σ H QA := q
theorem w_cons (q : ta σ H fun x H1 => tr σ H1 fun xs H2 => QA (x :: xs) H2) : tCons ta tr σ H QA := q
theorem w_tup (q : tr σ H fun xs H1 => New HO.tup Q xs H1) : tTup tr σ H Q := q
theorem w_lst (q : tr σ H fun xs H1 => New HO.lst Q xs H1) : tLst tr σ H Q := q
theorem w_and2 {tt uu : TT} (q : tt σ H fun c H1 => if c = true then uu σ H1 QB else QB false H1) : tAnd tt uu σ H QB := q
theorem w_or2 {tt uu : TT} (q : tt σ H fun c H1 => if c = true then QB true H1 else uu σ H1 QB) : tOr tt uu σ H QB := q
theorem w_not {tt : TT} (q : tt σ H fun c H1 => QB (!c) H1) : tNot tt σ H QB := q
theorem w_cb {r : List V → Hp → VK → Prop} (q : tr σ H fun vs H1 => r vs H1 Q) : tCB r tr σ H Q := q
theorem w_call {sp : Sp} {dvs : List V} {E : XK} (q : tr σ H fun vs H1 => sp (vs ++ dvs) H1 Q E) : tCall sp dvs E tr σ H Q := q
theorem w_ixL {K : PySem.W.Frag} {p : Addr} {xs : List V} (h : SqL K H p xs) (a : atI xs i = some v) (q : Q v H) : rIxL K (.ref p) (.int i) H Q := ⟨p, xs, i, v, rfl, rfl, h, a, q⟩
theorem w_ixT {K : PySem.W.Frag} {p : Addr} {xs : List V} (h : SqT K H p xs) (a : atI xs i = some v) (q : Q v H) : rIxT K (.ref p) (.int i) H Q := ⟨p, xs, i, v, rfl, rfl, h, a, q⟩
theorem w_gsub {to ti : TE} {ts : TSet} {QS : L2.St → Hp → Prop} (q : to σ H fun o H1 => ti σ H1 fun i H2 => ts o i v H2 fun H3 => QS σ H3) : gSub to ti ts v σ H QS := q
theorem w_setL {p : Addr} {xs : List V} {n : Nat} {QH : Hp → Prop} (h : H p = some (.lst xs)) (a : ixN xs.length i = some n) (q : QH (upd H p (.lst (xs.set n v)))) : rSetL (.ref p) (.int i) v H QH := ⟨p, xs, i, n, rfl, rfl, h, a, q⟩
/-- the store, the heap behind it a letter -/
theorem w_setG {p : Addr} {xs ys : List V} {n : Nat} {QH : Hp → Prop} (h : H p = some (.lst xs)) (a : ixN xs.length i = some n) (e : xs.set n v = ys)
    (q : ∀ H' : Hp, H' p = some (.lst ys) → (∀ b, b ≠ p → H' b = H b) → QH H') : rSetL (.ref p) (.int i) v H QH := ⟨p, xs, i, n, rfl, rfl, h, a, q _ (by rw [← e]; exact upd_same) fun b nb => upd_ne nb⟩
theorem w_fld {K : PySem.W.Frag} {f : Str} (q : ta σ H fun x H1 => Fld K f x H1 Q) : tFld K ta f σ H Q := q
theorem w_sfld {K : PySem.W.Frag} {tv : TE} {f : Str} (q : tv σ H fun y H1 => ta σ H1 fun x H2 => SFld K f y x H2 (fun H3 => D.nx σ H3)) : sFld K ta tv f D σ H := q
theorem w_par {m n : Nat} {ta : TA} (q : ta σ H fun vs H1 => ∃ v w, vs = [v, w] ∧ D.nx ((σ.set m (some v)).set n (some w)) H1) : tPar m n ta D σ H := q
theorem w_andV {ta tb : TE} (q : ta σ H fun x H1 => ∃ c, x = .bl c ∧ if c = true then tb σ H1 Q else Q (.bl false) H1) : tAndV ta tb σ H Q := q
theorem w_orV {ta tb : TE} (q : ta σ H fun x H1 => ∃ c, x = .bl c ∧ if c = true then Q (.bl true) H1 else tb σ H1 Q) : tOrV ta tb σ H Q := q
theorem w_mid (M : L2.St → Hp → Prop) (a : t { D with nx := M } σ H) (b : ∀ σ' H', M σ' H' → u D σ' H') : tMid t u D σ H := ⟨M, a, b⟩
theorem w_in {K : PySem.W.Frag} {neg : Bool} {x : V} {p : Addr} {xs : List V} (h : SqL K H p xs ∨ SqT K H p xs) (f : flatV x = true) (fs : xs.all flatV = true) (q : Q (.bl (if neg then !inV x xs else inV x xs)) H) : rIn K neg x (.ref p) H Q := ⟨p, xs, rfl, h, f, fs, q⟩
theorem w_kd {K : PySem.W.Frag} {w : World} {p : Addr} {z : Str} (h : KDct K w p z v) (q : Q v H) : rIxD K w (.ref p) (.str z) H Q := ⟨p, z, v, rfl, rfl, h, q⟩
theorem w_meth {C : Addr} {m : Str} {sp : Sp} {dvs : List V} {E : XK} {tr : TA} (q : ta σ H fun x H1 => Mth C m x H1 (tr σ H1 fun vs H2 => sp (x :: (vs ++ dvs)) H2 Q E)) : tMeth C m sp dvs E ta tr σ H Q := q
theorem w_methK {C : Addr} {m : Str} {n : Nat} {sp : Sp} {gV : List V → List V → List V} {E : XK} {tr : TA} (q : ta σ H fun x H1 => Mth C m x H1 (tr σ H1 fun zs H2 => zs.length = n ∧ sp (gV [x] zs) H2 Q E)) : tMethK C m n sp gV E ta tr σ H Q := q
theorem w_for {wi : TI} {g : TG} {tb : TS} (q : wi σ H fun J H1 => Loop J g tb D σ H1) : tFor wi g tb D σ H := q
theorem w_itup {K : PySem.W.Frag} {tl : TE} {R : It → Hp → Prop} (q : tl σ H fun x H1 => OverT K x H1 R) : iTup K tl σ H R := q
theorem w_ilist {K : PySem.W.Frag} {tl : TE} {R : It → Hp → Prop} (q : tl σ H fun x H1 => OverL K x H1 R) : iList K tl σ H R := q
theorem w_irng {ta : TA} {R : It → Hp → Prop} (q : ta σ H fun vs H1 => OverR vs H1 R) : iRng1 ta σ H R := q
theorem w_disp {trs : List (TE × TE)} (q : ∀ (p : Addr) (H1 : Hp), H p = none → H1 p = some (.dK []) → Same H H1 → tPairs trs σ H1 fun ps H2 => DAll p ps Q H2) : tDisp trs σ H Q :=
  fun p np => q p _ np upd_same fun b u e => by rw [upd_ne (ne_of_none e np)]; exact e
theorem w_pnil {QP : List (V × V) → Hp → Prop} (q : QP [] H) : tPairs [] σ H QP := q
theorem w_pcons {tk tv : TE} {r : List (TE × TE)} {QP : List (V × V) → Hp → Prop} (q : tk σ H fun x H1 => tv σ H1 fun y H2 => tPairs r σ H2 fun ps H3 => QP ((x, y) :: ps) H3) : tPairs ((tk, tv) :: r) σ H QP := q
theorem w_dput {td ty tv : TE} (q : tv σ H fun v H1 => td σ H1 fun x H2 => ty σ H2 fun y H3 => DPutQ v x y H3 (fun H4 => D.nx σ H4)) : sDPut td ty tv D σ H := q
theorem w_dget {td ty : TE} (q : td σ H fun x H1 => ty σ H1 fun y H2 => DGetQ x y H2 Q) : tDGet td ty σ H Q := q
theorem w_make {C : Addr} {sp : Sp} {dvs : List V} {E : XK} {tr : TA} (q : tr σ H fun vs H1 => Make C sp (fun x => x :: (vs ++ dvs)) E H1 Q) : tMake C sp dvs E tr σ H Q := q
theorem w_makeK {C : Addr} {n : Nat} {sp : Sp} {gV : List V → List V → List V} {E : XK} {tr : TA} (q : tr σ H fun zs H2 => zs.length = n ∧ Make C sp (fun x => gV [x] zs) E H2 Q) : tMakeKG C n sp gV E tr σ H Q := q
theorem w_drop (q : te σ H fun _ H1 => D.nx σ H1) : tDrop te D σ H := q
end
end KG

set_option Elab.async false
set_option linter.all false
set_option maxRecDepth 100000
set_option maxHeartbeats 4000000
/-! KX: an error that a suite keeps under another name, and what is asked of it later. -/
namespace KG
open PySem PySem.Spec PyProof.Rows L2

/-- a caught error of the class cls at a, its dict d -/
def ErrO (cls : Value) (d : Option Addr) (a : Addr) : HO := .ext fun h => ∃ (oe : Obj) (vs : Array Value), h.get? a = some oe ∧ Zc cls d oe ∧ oe.data = .fields vs
theorem errO_ok {P : Program} {w : World} {H : Hp} {h : Heap} {cls : Value} {d : Option Addr} {a : Addr} {oe : Obj} {vs : Array Value} (e : h.get? a = some oe) (z : Zc cls d oe) (dd : oe.data = .fields vs) : ObjOk P w H h a (ErrO cls d a) :=
  ⟨⟨oe, vs, e, z, dd⟩, ⟨oe, e⟩, fun _ _ ⟨o, v, q, r⟩ k => ⟨o, v, k o q, r⟩⟩
theorem errO_at {P : Program} {w : World} {H : Hp} {h : Heap} {cls : Value} {d : Option Addr} {a : Addr} (hok : HOk P w H h) (e : H a = some (ErrO cls d a)) : ∃ (oe : Obj) (vs : Array Value), h.get? a = some oe ∧ Zc cls d oe ∧ oe.data = .fields vs := by
  have x : ObjOk P w H h a (.ext fun h => ∃ (oe : Obj) (vs : Array Value), h.get? a = some oe ∧ Zc cls d oe ∧ oe.data = .fields vs) := hok a _ e
  exact x.1

section
variable {X : Cx} {pins : List (Addr × Obj)} {σ : L2.St} {H : Hp} {s : Shared}
/-- an object that was not there at the entry is known from now on -/
theorem inv_know {a : Addr} {oe : Obj} {vs : Array Value} {o : HO} (I : Inv X pins σ H s) (ha : s.heap.get? a = some oe) (hd : oe.data = .fields vs) (new : ObjOk X.prog X.w (upd H a o) s.heap a o) (na : H a = none) (nL : a ≠ X.env.locals)
    (n0 : X.s_0.heap.get? a = none) (np : ∀ p ∈ X.pn ++ pins, p.1 ≠ a) : Inv X pins σ (upd H a o) s := by
  have nT : ∀ {b u}, H b = some u → b ≠ a := fun e => ne_of_none e na
  have nC : ∀ x c, X.env.cells.lookup x = some c → c ≠ a := fun x c e z => by
    obtain ⟨v, oc, e1, e2⟩ := I.cell x c e
    rw [z, ha] at e1
    cases e1
    rw [hd] at e2
    cases e2
  refine ⟨I.ok, I.os, I.bare, ⟨I.base.keep, I.base.slot, fun b u e n hx => ?_, I.base.there, fun b xs e => ?_, fun b u v e => ?_, fun b ps e => ?_⟩, I.loc, I.cell, ?_, fun x c e => ?_, fun p hp => ?_, fun b u e => ?_, I.len⟩
  · rw [upd_ne (fun z => by rw [z, n0] at e; cases e)]
    exact I.base.free b u e n hx
  · have q := I.base.tups b xs e
    rw [upd_ne (nT q)]; exact q
  · have q := I.base.frzs b u v e
    rw [upd_ne (nT q)]; exact q
  · obtain ⟨m, q⟩ := I.base.tbls b ps e
    exact ⟨m, by rw [upd_ne (nT q)]; exact q⟩
  · rw [upd_ne (Ne.symm nL)]; exact I.free
  · rw [upd_ne (nC x c e)]; exact I.freeC x c e
  · obtain ⟨e, n, ne, nf, d⟩ := I.pin p hp
    exact ⟨e, by rw [upd_ne (np p hp)]; exact n, ne, nf, d⟩
  · by_cases hb : b = a
    · subst hb
      rw [upd_same] at e
      cases e
      exact new
    · rw [upd_ne hb] at e
      exact (I.hok b u e).stay (fun c v _ q => q) (fun c q => by rw [upd_ne (nT q)]; exact q) fun c xs q => by rw [upd_ne (nT q)]; exact q
end

/-- what the clause wishes, the error known behind its suite; slot i is the name's -/
def wKeep (K : PySem.W.Frag) (c : Value) (i : Nat) (ts : Addr → Value → Option Addr → TS) (Wout : WX) (D : Ends) : WX := fun cls d σ H => ∃ b, PySem.W.exmOne K cls c = some b ∧
  (b = true → ∀ a, H a = none → ts a cls d
    { nx := fun τ G => D.nx (τ.set i none) (upd G a (ErrO cls d a)), rt := fun v G => D.rt v (upd G a (ErrO cls d a)), bk := fun τ G => D.bk (τ.set i none) (upd G a (ErrO cls d a)), ct := fun τ G => D.ct (τ.set i none) (upd G a (ErrO cls d a)) } (σ.set i (some (.ref a))) H) ∧
  (b = false → Wout cls d σ H)

/-- an object of fields is no frame -/
theorem off_frames {B h : Heap} {l : List Env} {a : Addr} {o : Obj} {vs : Array Value} (ff : h.FunFrames B l) (e : h.get? a = some o) (d : o.data = .fields vs) : a ∉ frs l := by
  intro inside
  have ⟨_, p, ep, plain⟩ := ff.mem inside
  have same : o = p := Option.some.inj (e.symm.trans ep)
  exact plain vs (same ▸ d)
/-- where a caught error lies: beside the frames, the pins and all that was there at the entry -/
structure Beside (X : Cx) (pins : List (Addr × Obj)) (a : Addr) : Prop where
  own : a ≠ X.env.locals
  outer : a ∉ X.fs
  entry : X.s_0.heap.get? a = none
  pinned : ∀ p ∈ X.pn ++ pins, p.1 ≠ a
section
variable {X : Cx} {x n : Str} {c : Value} {i : Nat} {body suite : List Stmt} {b₀ : Stmt} {np pos pos' : Pos} {tb : WX → TS} {ts : Addr → Value → Option Addr → TS} {Wout : WX} {pins : List (Addr × Obj)} {σ : L2.St} {H : Hp} {s : Shared} {D : Ends}
theorem beside_of {B : Heap} {a : Addr} (stk : X.stack = X.env :: X.outer) (fr : X.env.frame = some X.env.locals) (noex : X.ex = []) (I : Inv X pins σ H s) (ground : ∀ b o, s.heap.get? b = some o → b ∉ frs X.stack → B.get? b = some o)
    (fresh : B.get? a = none) (off : a ∉ frs (X.env :: X.outer)) : Beside X pins a := by
  have gap : s.heap.get? a = none := by
    rcases e : s.heap.get? a with _ | o
    · rfl
    · have below := ground a o e (by rw [stk]; exact off)
      exact absurd (fresh.symm.trans below) (by simp)
  constructor
  · intro z
    refine off (List.mem_filterMap.mpr ⟨X.env, .head _, ?_⟩)
    rw [z, fr]
  · intro inside
    have ⟨env, henv, at_⟩ := List.mem_filterMap.mp inside
    exact off (List.mem_filterMap.mpr ⟨env, .tail _ henv, at_⟩)
  · rcases e : X.s_0.heap.get? a with _ | o
    · rfl
    · have ⟨_, still⟩ := I.base.there a o e (by rw [noex]; simp)
      exact absurd (gap.symm.trans still) (by simp)
  · intro p hp z
    have kept := (I.pin p hp).1
    rw [z] at kept
    exact absurd (gap.symm.trans kept) (by simp)
/-- the way out of the suite: the name goes, the error is known -/
theorem way_out {a : Addr} {oe : Obj} {vs : Array Value} {cls : Value} {d : Option Addr} {R : Shared → Prop} (ok : X.Ok) (nd : X.N.Nodup) (place : X.N[i]? = some n) (loc : X.env.kindOf n = some .local) (by_ : Beside X pins a) (z : Zc cls d oe) (dd : oe.data = .fields vs)
    (S : Inv (X.suite a ((a, oe) :: (X.pn ++ pins))) [] σ H s) (next : ∀ s', Inv X pins (σ.set i none) (upd H a (ErrO cls d a)) s' → R s') :
    wpAny (model X.prog X.w) X.A (do bindName X.env n .none; unbindBehindTheSuite X.env n pos') (fun _ s' => R s') X.xe s := by
  refine gone_ok (X := X.suite a ((a, oe) :: (X.pn ++ pins))) (pins := []) S nd place loc fun s' S' => next s' ?_
  have ⟨there, free, _⟩ := S'.pin (a, oe) (List.mem_append_left _ (.head _))
  exact inv_know (S'.unsuite ok) there dd (errO_ok there z dd) free by_.own by_.entry by_.pinned
/-- the clause's class by its name, within the suite's marks -/
theorem class_of_clause {a : Addr} {oe : Obj} {Q E : Value → Shared → Prop} (hc : Names X x c) (S : Inv (X.suite a ((a, oe) :: (X.pn ++ pins))) [] σ H s) (q : Q c s) : wpAny (model X.prog X.w) (X.A.mark (some (.ref a))) (eval (.Name x np) X.env) Q E s := by
  have ⟨glob, plain, from_⟩ := hc
  rcases from_ with own | ⟨no, boot, nn⟩
  · exact ld_glob (X := X.suite a ((a, oe) :: (X.pn ++ pins))) S glob own q plain
  · exact ld_blt (X := X.suite a ((a, oe) :: (X.pn ++ pins))) S glob no boot q nn plain
/-- an error that comes out of the body meets the clause -/
theorem clause_meets {xe₀ : Value → Shared → Prop} {u : Value} {s' : Shared} (stk : X.stack = X.env :: X.outer) (fr : X.env.frame = some X.env.locals) (noex : X.ex = []) (nd : X.N.Nodup) (place : X.N[i]? = some n) (loc : X.env.kindOf n = some .local) (hc : Names X x c) (tk : Takes X Wout)
    (inner : ∀ (a : Addr) (oe : Obj) (cls : Value) (d : Option Addr) (pn : List (Addr × Obj)), Zc cls d oe → (∃ vs, oe.data = .fields vs) → PSs (X.suite a ((a, oe) :: pn)) (b₀ :: suite) (ts a cls d)) (ok : X.Ok) (xx : XE (X.tr (X.pn ++ pins) xe₀) (wKeep X.K c i ts Wout D) u s') :
    wpAny (model X.prog X.w) X.A (noteFrame u X.env) (fun _ s₂ => wpAny (model X.prog X.w) X.A (setFlight u none) (fun _ s₃ => wpAny (model X.prog X.w) X.A (handleBy u X.env [.ExceptHandler (some (.Name x np)) (some n) (b₀ :: suite) pos']) (SP X pins D) X.xe s₃) X.xe s₂) X.xe s' := by
  have ⟨a, B, sI, _, τ, G, cls, d, eu, J', ground, grown, sky, free, os, bare, b, which, yes, no⟩ := xx
  subst eu
  have J : Inv X pins τ G sI := J'.ofTry ok
  have all_frames : X.A.frames = some (X.env :: X.outer) := stk ▸ ok.frames
  refine Sky.land (Zc.steady (cls := cls) (d := d)) all_frames fr (stk ▸ sky) fun h1 fl1 g1 => ?_
  have I1 : Inv X pins τ G { s' with heap := h1 } := J.landed ground fl1.1 (grown.trans g1) os bare
  have ⟨o1, v1, at1, z1, d1⟩ := fl1.there
  have by_ : Beside X pins a := beside_of stk fr noex J ground fl1.2.1 (off_frames fl1.2.2.1 at1 d1)
  have T1 := I1.suite at1 d1 free by_.own by_.outer
  have kind : PySem.W.Looks (model X.prog X.w) h1 (typeOf (.ref a)) cls := fun _ _ _ _ keeps q => wpAny_typeOf_ref (keeps _ _ at1) (z1.1.symm ▸ q)
  refine wpAny_handleBy_cons (codeAny_handlers_test (class_of_clause hc T1 ((PySem.W.exm_one (M := model X.prog X.w) I1.kIn kind which).here ?_))) (fun z => nomatch z)
  rcases b with _ | _
  · -- another clause's, or nobody's: it goes on
    refine wpAny_handleBy_nil ?_
    have goes : wpAny (model X.prog X.w) X.A (setFlight (.ref a) X.env.frame) (fun _ s₄ => wpAny (model X.prog X.w) X.A (throw (.ref a) : Sem Flow) (SP X pins D) X.xe s₄) X.xe { s' with heap := h1 } := by
      rw [fr]
      exact HandSPX.setFlight_upZ fl1 fun h2 held g2 => wpAny_throw (tk _ _ ⟨a, B, sI, pins, τ, G, cls, d, rfl, J, ground, (grown.trans g1).trans g2, .inr (.inr (by rw [stk]; exact held)), free, os, bare, no rfl⟩)
    have ⟨_, _, _, _, _, T, _, _, atE, _, dE, first, _⟩ := fl1
    unfold PySem.passOn
    refine wpAny_bind (wpAny_field atE dE first ?_)
    have some_ : ¬ ((Value.ref T == Value.none) = true) := by simp
    rw [if_neg some_]
    first
      | exact wpAny_bind (wpAny_pure (wpAny_bind goes))
      | exact wpAny_bind goes
  · -- this clause's: the suite
    refine codeAny_handlers_suite_as (HandSPX.lands_againZ fl1 fun h2 fl2 g2 => ?_)
    have ⟨o2, v2, at2, z2, d2⟩ := fl2.there
    have T2 := (J.landed ground fl2.1 ((grown.trans g1).trans g2) os bare : Inv X pins τ G { s' with heap := h2 }).suite at2 d2 free by_.own by_.outer
    refine store_ok (X := X.suite a ((a, o2) :: (X.pn ++ pins))) (v := .ref a) T2 nd place (.inl loc) rfl (fun s3 T3 => ?_) (.inr loc)
    refine wpAny_mono ((inner a o2 cls d (X.pn ++ pins) z2 ⟨_, d2⟩).run [] s3 _ G _ T3 (yes rfl a free)) (fun flow s4 ends => ?_) (fun _ _ z => False.elim z)
    match flow, ends with
    | .next, ⟨_, _, T4, q⟩ => exact way_out ok nd place loc by_ z2 d2 T4 fun _ I5 => ⟨_, _, I5, q⟩
    | .brk, ⟨_, _, T4, q⟩ => exact way_out ok nd place loc by_ z2 d2 T4 fun _ I5 => ⟨_, _, I5, q⟩
    | .cont, ⟨_, _, T4, q⟩ => exact way_out ok nd place loc by_ z2 d2 T4 fun _ I5 => ⟨_, _, I5, q⟩
    | .ret _, ⟨_, _, _, T4, r, q⟩ => exact way_out ok nd place loc by_ z2 d2 T4 fun _ I5 => ⟨_, _, _, I5, r, q⟩
/-- try: body / except x as n: suite; the error is known behind the suite -/
theorem ps_try_keep (hs : X.stack = X.env :: X.outer) (hf : X.env.frame = some X.env.locals) (hex : X.ex = []) (hN : X.N.Nodup) (hi : X.N[i]? = some n) (hln : X.env.kindOf n = some .local) (hc : Names X x c) (tk : Takes X Wout)
    (hb : ∀ (W : WX) (pn : List (Addr × Obj)) (xe : Value → Shared → Prop), Takes (X.tr pn xe) W → PassesOwn (model X.prog X.w) X.A X.env xe → PSs (X.tr pn xe) body (tb W))
    (hsu : ∀ (a : Addr) (oe : Obj) (cls : Value) (d : Option Addr) (pn : List (Addr × Obj)), Zc cls d oe → (∃ vs, oe.data = .fields vs) → PSs (X.suite a ((a, oe) :: pn)) (b₀ :: suite) (ts a cls d)) :
    PS X (.Try body [.ExceptHandler (some (.Name x np)) (some n) (b₀ :: suite) pos'] [] [] pos) (fun D σ H => tb (wKeep X.K c i ts Wout D) D σ H) := by
  constructor
  intro pins s σ H D I start_
  refine wpAny_Try_except ?_
  refine wpAny_mono ((hb _ (X.pn ++ pins) (fun u s₁ => wpAny (model X.prog X.w) X.A (noteFrame u X.env) (fun _ s₂ => wpAny (model X.prog X.w) X.A (setFlight u none) (fun _ s₃ => wpAny (model X.prog X.w) X.A (handleBy u X.env [.ExceptHandler (some (.Name x np)) (some n) (b₀ :: suite) pos']) (SP X pins D) X.xe s₃) X.xe s₂) X.xe s₁)
    (fun _ _ xx => clause_meets hs hf hex hN hi hln hc tk hsu I.ok xx) PassesOwn.looking).run [] s σ H D (I.toTry _) start_) (fun flow s1 ends => ?_) (fun _ _ z => z)
  match flow, ends with
  | .next, ⟨_, _, T, q⟩ => exact wpAny_execs_nil ⟨_, _, T.ofTry I.ok, q⟩
  | .brk, ⟨_, _, T, q⟩ => exact ⟨_, _, T.ofTry I.ok, q⟩
  | .cont, ⟨_, _, T, q⟩ => exact ⟨_, _, T.ofTry I.ok, q⟩
  | .ret _, ⟨_, _, _, T, r, q⟩ => exact ⟨_, _, _, T.ofTry I.ok, r, q⟩
end

/-! ### what is asked of a known error -/
/-- isinstance(e, c): D the error's class -/
def rIsErr (K : PySem.W.Frag) : List V → Hp → VK → Prop := fun xs H Q => ∃ (a D : Addr) (dd : Addr) (fs : List (Str × V)) (c : V) (cv : Value) (b : Bool), xs = [.ref a, c] ∧ H a = some (ErrO (.ref D) (some dd) a) ∧ H dd = some (.xd fs) ∧ ExcC K D ∧
  (∀ u, RelV c u → u = cv) ∧ PySem.W.kitOne K (.ref D) cv = some b ∧ Q (.bl b) H
theorem excC_cls {K : PySem.W.Frag} {D : Addr} (C : ExcC K D) : (PySem.W.clsIn K D).isSome = true := by
  obtain ⟨cd, hc, _⟩ := PySem.W.any_some C.hd
  rw [hc] <;> rfl
theorem call_isErr {X : Cx} : CallR X (.builtin "isinstance") (rIsErr X.K) := by
  intro pins s σ H xs us Q I r h
  obtain ⟨a, D, dd, fs, c, cv, b, rfl, ha, hdd, C, hcv, e, q⟩ := h
  cases r with
  | cons rx rr =>
    cases rr with
    | cons rt rr =>
      cases rr
      cases rx
      have ec := hcv _ rt
      subst ec
      obtain ⟨oe, vs, hget, hz, hv⟩ := errO_at I.hok ha
      obtain ⟨mA, ⟨od, _, _, ho, _⟩, _⟩ := I.hok dd _ hdd
      have J : PySem.W.InstAt s.heap a oe D (some od) := by
        obtain ⟨oc, oda, odt, osl⟩ := oe
        obtain ⟨h1, h2⟩ := hz
        dsimp only at h1 h2 hv
        subst h1 h2 hv
        exact ⟨hget, rfl, rfl, ho⟩
      exact PySem.W.kia_one (PySem.W.kitx_exc (excC_cls C) C.hg C.hk C.hs C.ha C.hn C.ht C.hm) I.kIn J e (fun z => nomatch z) fun tk => ⟨.bl b, H, I.kept (t' := tk) fun _ _ z => z, rfl, q⟩
/-- e.f of a known error -/
def tErrF (K : PySem.W.Frag) (te : TE) (f : Str) : TE := fun σ H Q => te σ H fun x H1 => ∃ (a C dd : Addr) (fs : List (Str × V)) (v : V), x = .ref a ∧ H1 a = some (ErrO (.ref C) (some dd) a) ∧ H1 dd = some (.xd fs) ∧ XfC K C ∧ PySem.W.findIn K (.ref C) f = some none ∧ fs.lookup f = some v ∧ Q v H1
theorem pe_errf {X : Cx} {e : Expr} {te : TE} {pos : Pos} {n : Str} (he : PE X e te) (hb : attributeBase e n X.env (eval e X.env) = eval e X.env := by rfl) : PE X (.Attribute e n pos) (tErrF X.K te n) := by
  refine ⟨fun pins s σ H Q I h => ?_⟩
  refine attr_of hb (thn (he.run pins s σ H _ I h) fun u s1 hh => ?_)
  obtain ⟨x, H1, I1, rx, a, C, dd, fs, v, ex, ha, hdd, T, hno, l, q⟩ := hh
  subst ex
  obtain rfl : u = Value.ref a := rx
  obtain ⟨oe, vs, hget, hz, hv⟩ := errO_at I1.hok ha
  obtain ⟨mA, hns, hr⟩ := I1.hok dd _ hdd
  obtain ⟨od, ho, hl⟩ := lookIn_ns hns
  obtain ⟨u, hu, ru⟩ := RelO.some_of (v := v) (o := mA n) (by rw [← l]; exact hr n)
  have J : PySem.W.InstAt s1.heap a oe C (some od) := ⟨hget, hz.1, by unfold PySem.W.notCls; rw [hv] <;> rfl, by rw [hz.2]; exact ho⟩
  exact HandSPX.exc_get I1.kIn J T.ga T.gg T.exC (PySem.W.findObj_own T.hdC hno rfl (by rw [hl, hu])) (handed_of ru) ⟨v, H1, I1.tok _, ru, q⟩
end KG

set_option Elab.async false
set_option linter.all false
set_option maxRecDepth 100000
set_option maxHeartbeats 4000000
/-! KE1: an own error, its __init__ of two lines: super().__init__('..'), self.f = value. -/
namespace KG
open PySem PySem.Spec PySem.Calls PyProof.Rows L2
open PySem.W (ksFn ksEnv)

/-- what the written part says of such a class at C, its __init__ at fI; pv: the value's name, fld: the field -/
structure ErrC (prog : Program) (K : PySem.W.Frag) (C fI : Addr) (qual pv fld : Str) (params : Arguments) (body : List Stmt) (scope : Scope) : Prop where
  cls : OexC K C
  ini : PySem.W.findIn K (.ref C) "__init__" = some (some (.ref fI))
  fn : PySem.W.typeIn K (.ref fI) = some (.type "function")
  fun_ : ∃ (oc kV doc pm ct : Value) (an od : Option Addr) (cda cc : Addr) (osl : Array (Option Value)) (ccl cl : Value) (cdd cld : Option Addr) (vs : Array Value) (ccs csl : Array (Option Value)) (file : Str) (tf : Tok),
    K.lookup fI = some ⟨oc, od, .func (ksFn "__init__" qual params body scope .none kV doc pm an (.ref cda) ct cc), osl⟩ ∧ PySem.W.codeIn K (.ref cda) qual = true ∧
    K.lookup cda = some ⟨ccl, cdd, .fields vs, ccs⟩ ∧ vs[2]? = some (.str file tf) ∧ ((prog.main.file : Str) == file) = true ∧ K.lookup cc = some ⟨cl, cld, .cell (some (.ref C)), csl⟩
  self_ : PySem.W.mroIn K C (.ref C) = some true
  up : PySem.W.ks_superIn K C C "__init__" = some (some (.builtin "ValueError.__init__"))
  sub : PySem.W.subIn K (.ref C) (.type "ValueError") = some true
  opq : PySem.W.nsIn K cStatics "thirdparty.any" = some none
  nosup : PySem.W.nsIn K mainGlobals "super" = some none
  top : (prog.main.scope.names.lookup ("super" : Str)).isSome = false
  nofld : PySem.W.findIn K (.ref C) fld = some none

/-- the two lines -/
def errBody (msg pv fld : Str) (j : Nat) (p0 p1 p2 p3 p4 p5 p6 p7 p8 p9 : Pos) : List Stmt :=
  [.Expr (.Call (.Attribute (.Call (.Name "super" p0) [] [] p1) "__init__" p2) [.Constant (.str msg) j p3] [] p4) p5,
   .Assign [.Attribute (.Name "self" p6) fld p7] (.Name pv p8) p9]

/-- what the text of the two lines says -/
structure ErrT (qual pv fld msg : Str) (params : Arguments) (scope : Scope) (j : Nat) (p0 p1 p2 p3 p4 p5 p6 p7 p8 p9 : Pos) : Prop where
  bind : ∀ (kV doc pm : Value) (an : Option Addr) (cdv ct : Value) (cc : Addr) (x y : Value), bindArgs (ksFn "__init__" qual params (errBody msg pv fld j p0 p1 p2 p3 p4 p5 p6 p7 p8 p9) scope .none kV doc pm an cdv ct cc) ⟨[x, y], []⟩ = pure [(("self" : Str), x), (pv, y)]
  ev : ∃ pl : Env → Sem Bool, ∀ env : Env, eval (.Call (.Attribute (.Call (.Name "super" p0) [] [] p1) "__init__" p2) [.Constant (.str msg) j p3] [] p4) env = (do
      let ov ← attributeBase (.Call (.Name "super" p0) [] [] p1) "__init__" env (eval (.Call (.Name "super" p0) [] [] p1) env)
      standAt p2.atName
      let (f, first) ← holding [ov] (getMethod ov "__init__" (pl env))
      callWith p4 f first (backTo p4 (starEach [.Constant (.str msg) j p3] env)) [])
  par : (params.posonlyargs ++ params.args).head?.map (·.arg) = some "self"
  k1 : scope.names.lookup ("self" : Str) = some .local
  k2 : scope.names.lookup pv = some .local
  k3 : scope.names.lookup ("super" : Str) = some .globalImplicit
  k4 : scope.names.lookup ("__class__" : Str) = some .free
  npv : pv ≠ "self"
  npd : (pv == ("__debug__" : Str)) = false
  cell : ∀ x ∈ scope.names, x.2 ≠ .cell
  co : scope.isCoroutine = false
  gen : scope.isGenerator = false
  kind : scope.kind = .function

section
variable {prog : Program} {w : World} {A : Around} {R : Result → Shared → Prop} {K : PySem.W.Frag} {mg mb : Str → Option Value} {C fI : Addr} {qual pv fld msg : Str} {params : Arguments} {scope : Scope} {j : Nat} {p0 p1 p2 p3 p4 p5 p6 p7 p8 p9 : Pos}
theorem err_init {s : Shared} {e t0 : Addr} {u : Value} (T : ErrC prog K C fI qual pv fld params (errBody msg pv fld j p0 p1 p2 p3 p4 p5 p6 p7 p8 p9) scope)
    (kin : K.In s.heap) (nsm : s.heap.Ns mainGlobals mg) (nsb : s.heap.Ns builtinsNs mb) (mbb : ∀ x : Str, x ≠ "__name__" → mb x = bootBuiltins x) (lim : s.heap.NoLimit) (dep : A.depth < recursionLimit)
    (he : s.heap.get? e = some (PySem.HandSPX.excO C t0)) (nK : K.lookup e = none)
    (bind : ∀ (kV doc pm : Value) (an : Option Addr) (cdv ct : Value) (cc : Addr) (x y : Value), bindArgs (ksFn "__init__" qual params (errBody msg pv fld j p0 p1 p2 p3 p4 p5 p6 p7 p8 p9) scope .none kV doc pm an cdv ct cc) ⟨[x, y], []⟩ = pure [(("self" : Str), x), (pv, y)])
    (pl : Env → Sem Bool) (hev : ∀ env : Env, eval (.Call (.Attribute (.Call (.Name "super" p0) [] [] p1) "__init__" p2) [.Constant (.str msg) j p3] [] p4) env = (do
      let ov ← attributeBase (.Call (.Name "super" p0) [] [] p1) "__init__" env (eval (.Call (.Name "super" p0) [] [] p1) env)
      standAt p2.atName
      let (f, first) ← holding [ov] (getMethod ov "__init__" (pl env))
      callWith p4 f first (backTo p4 (starEach [.Constant (.str msg) j p3] env)) []))
    (hpar : (params.posonlyargs ++ params.args).head?.map (·.arg) = some "self")
    (k1 : scope.names.lookup ("self" : Str) = some .local) (k2 : scope.names.lookup pv = some .local) (k3 : scope.names.lookup ("super" : Str) = some .globalImplicit) (k4 : scope.names.lookup ("__class__" : Str) = some .free)
    (npv : pv ≠ "self") (hpd : (pv == ("__debug__" : Str)) = false) (hcell : ∀ x ∈ scope.names, x.2 ≠ .cell) (hco : scope.isCoroutine = false) (hgen : scope.isGenerator = false) (hk : scope.kind = .function)
    (hq : ∀ h' t' dx, (∀ b o, b ≠ e → s.heap.get? b = some o → h'.get? b = some o) → s.heap.objs.size ≤ dx → dx ≠ e →
      (∃ t1 : Addr, h'.get? e = some ({ cls := .ref C, dict := some dx, data := .fields #[.ref t1, .none, .none, .none, .bool false, .none] } : Obj)) → h'.Ns1 dx (fun y => if y = fld then some u else none) →
      R (.ok (.ret .none)) { s with heap := h', toks := t' }) :
    codeAny (model prog w) A (.call (.ref fI) ⟨[.ref e, u], []⟩) R s := by
  obtain ⟨oc, kV, doc, pm, ct, an, od, cda, cc, osl, ccl, cl, cdd, cld, vs, ccs, csl, file, tf, lkF, code, lkC, hvs, hfile, lkCell⟩ := T.fun_
  obtain ⟨nm, q, N, bs, bm, sn, sub, ab, col, dd, c0, c1, c2, c3, c5, hC, hbm⟩ := T.cls.cls
  have hcl : PySem.W.clsIn K C = some { name := nm, bases := bs, mro := .ref C :: bm, ns := N, qualname := q, hasDict := true, slotNames := sn, subclasses := sub, abstract := ab, collection := col, hasDel := false } := by
    unfold PySem.W.clsIn
    rw [hC] <;> rfl
  obtain ⟨ar, har, hself⟩ : ∃ ar, (params.posonlyargs ++ params.args).head? = some ar ∧ ar.arg = "self" := by
    cases z : (params.posonlyargs ++ params.args).head? with
    | none => rw [z] at hpar; cases hpar
    | some ar => rw [z] at hpar; exact ⟨ar, rfl, Option.some.inj hpar⟩
  have eC : e ≠ C := fun z => by
    have z1 := kin _ _ hC
    rw [z, z1] at he
    cases he
  refine ks_codeAny_call_defAt (fd := ksFn "__init__" qual params (errBody msg pv fld j p0 p1 p2 p3 p4 p5 p6 p7 p8 p9) scope .none kV doc pm an (.ref cda) ct cc) (body := errBody msg pv fld j p0 p1 p2 p3 p4 p5 p6 p7 p8 p9) (binds := [(("self" : Str), .ref e), (pv, u)])
    dep (kin _ _ lkF) rfl lim (PySem.W.codeRec_of kin code) rfl (.of_eq (bind ..)) hcell (fun y hy => ?_) (fun h1 ns1 kp1 => ?_) hco hgen hk
  · rcases List.mem_cons.mp hy with z | z
    · rw [z]; exact k1
    · rcases List.mem_cons.mp z with z | z
      · rw [z]; exact k2
      · cases z
  have kin1 : K.In h1 := kin.keeps kp1
  obtain ⟨hp, g, d, t, os⟩ := s
  have hint : interactive (callEnv (ksFn "__init__" qual params (errBody msg pv fld j p0 p1 p2 p3 p4 p5 p6 p7 p8 p9) scope .none kV doc pm an (.ref cda) ct cc) hp.objs.size fI) = false := by
    unfold interactive
    simp [callEnv, newEnv, hk]
  refine ks_wpAt_execs_cons (ks_wpAt_Expr_any (ks_wpAt_MethodCall (ks_wpAt_super_base k3 k4 (by decide) rfl (kin1 _ _ lkF) rfl har rfl (kin1 _ _ lkC) rfl hvs hfile T.top ?_) (hev _)) hint)
  refine PySem.W.ks_loadName_global hk k3 (loadGlobal_builtin (nsm.keeps kp1) (PySem.W.mg_none_of kin nsm T.nosup) (nsb.keeps kp1) ((mbb _ (by decide +kernel)).trans (by decide +kernel)) ⟨rfl, ?_⟩)
  refine wpAny_loadName_free hk k4 rfl ⟨_, kin1 _ _ lkCell, rfl⟩ ?_
  rw [hself]
  refine wpAny_loadName_local hk k1 ns1 (v := .ref e) ?_ ?_
  · show List.lookup ("self" : Str) ([(("self" : Str), Value.ref e), (pv, u)] : List (Str × Value)).reverse = _
    simp [List.lookup, beq_eq_false_iff_ne.mpr (Ne.symm npv)]
  have he1 : h1.get? e = some (PySem.HandSPX.excO C t0) := kp1 _ _ he
  have hD1 := kin1 _ _ hC
  refine ks_wpAny_isType_cls hD1 rfl ⟨rfl, ?_⟩
  refine ks_wpAny_call_super hD1 rfl he1 rfl (fun c z => by cases z) (PySem.W.looks_mroIn kin1 T.self_) (fun h2 eso kp2 => ?_)
  have kin2 : K.In h2 := kin1.keeps kp2
  have he2 := kp2 _ _ he1
  have inst2 : PySem.W.InstAt h2 e (PySem.HandSPX.excO C t0) C none := ⟨he2, rfl, rfl, trivial⟩
  have sup := T.up
  unfold PySem.W.ks_superIn at sup
  rw [hcl] at sup
  refine PySem.W.kxs_getMethod PySem.W.kxs_ValueError eso (PySem.W.looks_opaque kin2 T.opq) (l₀ := Value.ref C :: bm) (fun A Q E s k q => wpAny_bind ((PySem.W.looks_clsIn kin2 hcl) A _ E s k (wpAny_pure q))) rfl kin2 sup (inst2.type.andThen (PySem.W.looks_subIn kin2 T.sub)) eC (by decide) ?_
  have ku := Heap.get?_push_size h2 (o := PySem.W.kxs_mw "ValueError.__init__" e) rfl
  have kp3 : ∀ b o, h2.get? b = some o → (h2.push (PySem.W.kxs_mw "ValueError.__init__" e)).get? b = some o := fun b o z => Heap.get?_push_of_some _ z
  refine PySem.W.kxs_callWith (i := "ValueError.__init__") (x := e) rfl (evalArgs_plain (Calls.spliced_cons (Calls.Constant_str (k := j) (pos := p3) (Calls.spliced_nil ⟨ku, ?_⟩))))
  have he3 := kp3 _ _ he2
  have hC3 := kp3 _ _ (kp2 _ _ hD1)
  refine wpAny_call (codeAny_of_tree ?_)
  show wpAny _ (Around.in1 _) (callAny (.ref h2.objs.size) ⟨[.str msg _], []⟩) _ _ _
  simp only [callAny]
  refine wpAny_bind (wpAny_load ku ?_)
  simp only [PySem.W.kxs_mw, show (Value.type "method-wrapper" == Value.type "method" || Value.type "method-wrapper" == Value.type "builtin_function_or_method" || Value.type "method-wrapper" == Value.type "method-wrapper") = true by decide, if_true]
  refine PySem.W.KFB.if_so (by decide) ?_
  refine wpAny_bind (PySem.W.check_bound_init PySem.F.excBase_ValueError.toExcCallFacts hC3 he3 rfl ?_)
  refine wpAny_bind (wpAny_pure (wpAny_pure ?_))
  refine ⟨plainId_quiet PySem.F.excBase_ValueError.init.plain _, codeAny_builtin PySem.F.excBase_ValueError.initEntry ?_⟩
  refine PySem.W.exc_init_tree (cls := .ref C) (t0 := t0) (dv := none) (c2 := .none) (c3 := .none) (b4 := .bool false) he3 (by show 1 ≤ sizeLine; rw [sizeLine_eq]; omega) fun h4 kp4 he4 _ => ?_
  have neF : hp.objs.size ≠ e := Nat.ne_of_gt (Heap.lt_size he)
  have kin4 : K.In h4 := fun b o z => kp4 b o (fun y => by
    rw [y, nK] at z
    cases z) (kp3 _ _ (kin2 b o z))
  have ns4 : h4.Ns hp.objs.size (fun y => ([(("self" : Str), Value.ref e), (pv, u)] : List (Str × Value)).reverse.lookup y) := by
    obtain ⟨o, es, ep, ho, r⟩ := ns1
    exact ⟨o, es, ep, kp4 _ _ neF (kp3 _ _ (kp2 _ _ ho)), r⟩
  refine ks_wpAt_execs_cons (ks_wpAt_Assign_Attr ?_)
  refine wpAt_of_wpAny (wpAny_Name ?_ hpd)
  refine wpAny_loadName_local hk k2 ns4 (v := u) ?_ ?_
  · show List.lookup pv ([(("self" : Str), Value.ref e), (pv, u)] : List (Str × Value)).reverse = _
    simp [List.lookup]
  refine wpAny_Name ?_ (by decide)
  refine wpAny_loadName_local hk k1 ns4 (v := .ref e) ?_ ?_
  · show List.lookup ("self" : Str) ([(("self" : Str), Value.ref e), (pv, u)] : List (Str × Value)).reverse = _
    simp [List.lookup, beq_eq_false_iff_ne.mpr (Ne.symm npv)]
  refine PySem.W.set_plain kin4 (ox := _) (od := none) ⟨he4, rfl, rfl, trivial⟩ T.cls.sa ?_
  refine PySem.HandSPX.exc_osa kin4 he4 hcl (show PySem.HandSPX.refsVE (.ref C :: bm) = true from hbm) rfl T.nofld (fun h5 tk5 dx kp5 dn dne hx hn => ?_)
  show _root_.PySem.wpAt _ _ _ (execs [] _) _ _ _
  refine wpAt_of_wpAny (wpAny_execs_nil (hq h5 tk5 dx (fun b o ne z => kp5 b o ne (kp4 b o ne (kp3 _ _ (kp2 _ _ (kp1 _ _ z))))) ?_ dne ⟨_, hx⟩ hn))
  obtain ⟨oL, _, _, hoL, _⟩ := ns4
  exact Nat.le_trans (Nat.le_of_lt (Heap.lt_size hoL)) dn
end

section
variable {X : Cx} {k : Nat} {C fI : Addr} {x qual pv fld msg : Str} {params : Arguments} {scope : Scope} {j : Nat} {p0 p1 p2 p3 p4 p5 p6 p7 p8 p9 p pos : Pos} {e : Expr} {es : List Expr} {ta : TA}
/-- the making of an own error: its reading -/
def tErr (C : Addr) (fld : Str) (ta : TA) : L2.St → Hp → XK → Prop := fun σ H Q => ta σ H fun vs H1 => ∃ v, vs = [v] ∧ ∀ (dx : Addr) (H2 : Hp), H1 dx = none → H2 dx = some (.xd [(fld, v)]) → (∀ b, b ≠ dx → H2 b = H1 b) → Q (.ref C) (some dx) H2
theorem pmk_err (T : ErrC X.prog X.K C fI qual pv fld params (errBody msg pv fld j p0 p1 p2 p3 p4 p5 p6 p7 p8 p9) scope) (TT : ErrT qual pv fld msg params scope j p0 p1 p2 p3 p4 p5 p6 p7 p8 p9)
    (hr : Room (k + 1) X.A) (hg : Gl X x) (hm : X.mg x = some (.ref C)) (ha : PA X (e :: es) ta)
    (hdb : (x == ("__debug__" : Str)) = false := by decide) (hs : starEach (e :: es) X.env = (false, eval e X.env) :: starEach es X.env := by rfl) (hpl : (backTo pos (starEach es X.env)).any (·.1) = false := by rfl) :
    PMk X (.Call (.Name x p) (e :: es) [] pos) (tErr C fld ta) := by
  intro pins s σ H Q I h
  obtain ⟨nm, q, N, bs, bm, sn, sub, ab, col, dd, c0, c1, c2, c3, c5, hC, hbm⟩ := T.cls.cls
  refine wpAny_Call_Name_kw (ld_glob I hg hm ?_ hdb)
  refine PySem.W.callWith_K (h₀ := X.base) I.ok.mod.kin T.cls.kC (thn (ha.run pos pins s σ H _ I h) fun us s1 ⟨vs, H1, I1, r1, q1⟩ => ⟨I1.kIn, ?_⟩) hs hpl
  obtain ⟨v, ev, q1⟩ := q1
  subst ev
  obtain ⟨u, eu, ru⟩ := vals1 r1
  subst eu
  show wpAny _ _ (call (.ref C) [u]) _ _ _
  have mod := I1.mod
  obtain ⟨mb, nsb0, mbb⟩ := mod.blt
  have nsm := mod.glob.keeps I1.bk
  have nsb := nsb0.keeps I1.bk
  have lim := I1.nolimit
  have kin := I1.kIn
  have bare := I1.bare
  have fresh : ∀ {b : Addr}, s1.heap.objs.size ≤ b → H1 b = none := fun hb => I1.hok.fresh hb
  obtain ⟨hp, g, dr, tk, os⟩ := s1
  have kk : ∀ b o, hp.get? b = some o → ((hp.push (PySem.W.kdv_tup [u])).push (PySem.HandSPX.excO C hp.objs.size)).get? b = some o := fun b o z => Heap.get?_push_of_some _ (Heap.get?_push_of_some _ z)
  have hget : ((hp.push (PySem.W.kdv_tup [u])).push (PySem.HandSPX.excO C hp.objs.size)).get? (hp.objs.size + 1) = some (PySem.HandSPX.excO C hp.objs.size) := by heap_get
  have nK : X.K.lookup (hp.objs.size + 1) = none := by
    cases z : X.K.lookup (hp.objs.size + 1) with
    | none => rfl
    | some o => exact absurd (Heap.lt_size (kin _ _ z)) (Nat.not_lt.mpr (Nat.le_succ _))
  refine wpAny_call (PySem.HandSPX.call_own F.excBase_ValueError (fun Y => PySem.HandSPX.refsVE_contains Y bm hbm) (kin _ _ hC) (PySem.W.looks_findIn kin T.ini) (fun self => PySem.W.bind_fn kin self T.fn) (by show 1 ≤ sizeLine; rw [sizeLine_eq]; omega)
    (err_init (mg := X.mg) (mb := mb) (t0 := hp.objs.size) (e := hp.objs.size + 1) (u := u) T (kin.keeps kk) (nsm.keeps kk) (nsb.keeps kk) mbb (lim.keeps kk) (hr.make C [u] []).depth hget nK TT.bind TT.ev.choose TT.ev.choose_spec TT.par TT.k1 TT.k2 TT.k3 TT.k4 TT.npv TT.npd TT.cell TT.co TT.gen TT.kind
      fun h' t' dx kp dn dne hx hn => ⟨rfl, ?_⟩))
  obtain ⟨t1, hx⟩ := hx
  have dn' : hp.objs.size ≤ dx := Nat.le_trans (by simp only [Heap.size_push]; omega) dn
  have ne_old : ∀ {b : Addr} {o : Obj}, hp.get? b = some o → b ≠ hp.objs.size + 1 := fun z => Nat.ne_of_lt (Nat.lt_succ_of_lt (Heap.lt_size z))
  obtain ⟨G, g1, g2⟩ := restrict h' fun b => decide (b ≠ hp.objs.size + 1)
  have gk : ∀ b, b ≠ hp.objs.size + 1 → G.get? b = h'.get? b := fun b hb => g1 b (decide_eq_true hb)
  have ge : G.get? (hp.objs.size + 1) = none := g2 _ (by simp)
  have J : Inv X pins σ (upd H1 dx (.xd [(fld, v)])) ⟨G, g, dr, t', os⟩ := I1.laid (h' := G) (a := dx) (o := .xd [(fld, v)]) (t' := t') (fun b o z => (gk b (ne_old z)).trans (kp b o (ne_old z) (kk b o z))) dn'
    ⟨_, hn.at fun o y => (gk dx dne).trans y, relO_put (fs := []) ru fun g => True.intro⟩
  have nd : H1 dx = none := fresh dn'
  have na : upd H1 dx (.xd [(fld, v)]) (hp.objs.size + 1) = none := by
    rw [upd_ne (Ne.symm dne)]
    exact fresh (Nat.le_succ _)
  refine ⟨hp.objs.size + 1, _, _, ⟨G, g, dr, t', os⟩, _, .ref C, some dx, rfl, J, fun b o z => ?_, ge, hx, ⟨rfl, rfl⟩, rfl, rfl, na, rfl, bare, raises_own T.cls.exC T.cls.tyC, q1 dx _ nd upd_same fun b nb => upd_ne nb⟩
  by_cases hb : b = hp.objs.size + 1
  · rw [hb, ge] at z
    cases z
  · exact (gk b hb).symm.trans z
end
end KG

set_option Elab.async false
set_option linter.all false
set_option maxRecDepth 100000
set_option maxHeartbeats 1000000
/-! KH: a lambda without parameters handed to a def of the text, where nothing is shown; the end of a law whose defs lay code objects. -/
namespace KG
open PySem PySem.Spec PySem.Calls PyProof.Rows L2 LamX

/-- the lambda: its names, no parameters -/
structure LamT (sc scope : Scope) (params : Arguments) (body : Expr) : Prop where
  names : LamS sc scope
  bind : ∀ (q : Str) (cl : List (Str × Addr)) (pm cv ctv : Value), bindArgs (PySem.W.kla_fn "<lambda>" q params body scope cl pm cv ctv) ⟨[], []⟩ = pure []

/-- the frame of the def g that got it, entered from X at s -/
abbrev inDef (X : Cx) (N : List Str) (x : Str) (st : Stmt) (g : Addr) (cd : Value) (s : Shared) (H : Hp) : Cx := cxOf C8.CX0 X.prog X.w X.K X.mg X.base N x (defScope st) g cd X.A X.stack s H C8.E0
section
variable {X : Cx} {pins : List (Addr × Obj)} {σ : L2.St} {H HZ : Hp} {s : Shared} {k i : Nat} {N : List Str} {x a : Str} {st : Stmt} {g f c' : Addr} {cd pm ctv : Value} {params : Arguments} {body : Expr} {scope : Scope} {W : WX} {E : XK} {tb : TE} {p1 p2 : Pos}
/-- the lambda runs: from a frame over X's, at s1 -/
theorem lam_run {s1 : Shared} {env : Env} {A : Around} {Q : VK} (I : Inv X pins σ H s) (L : LamT X.env.scope scope params body) (e0 : Env0 X.prog X.w X.K X.mg X.base A (env :: X.stack) s1 HZ) (un : Un (frs X.stack) [] H HZ s.heap s1.heap) (lim : s1.heap.NoLimit)
    (rm : Room (k + 1) A) (gd : A.guards = some []) (fo : s1.heap.get? f = some (PySem.W.kla_obj "<lambda>" (X.env.qual ++ "<lambda>") params body scope (cloFrom X.env.cells scope.names []) pm c' ctv)) (co : ∃ (oc : Obj) (vs : Array Value) (t : Tok), s1.heap.get? c' = some oc ∧ oc.data = .fields vs ∧ vs[1]? = some (.str (X.env.qual ++ "<lambda>") t))
    (hbody : Room k (A.deeper (lamEnv X scope s1.heap.objs.size f c')) → (A.deeper (lamEnv X scope s1.heap.objs.size f c')).guards = some [] → PE (lamCx X A (env :: X.stack) s1 HZ E scope f c') body tb) (q : tb σ HZ Q) :
    codeAny (model X.prog X.w) A (.call (.ref f) ⟨[], []⟩) (CR (L2.CX X.prog X.w) (env :: X.stack) X.prog X.w HZ s1 Q E) s1 := by
  obtain ⟨oc, vs, t, g1, g2, g3⟩ := co
  refine PySem.W.kla_callFunE rm.depth fo rfl L.names.co L.names.gen rfl ⟨c', oc, vs, t, rfl, g1, g2, g3⟩ ?_
  rw [L.bind]
  refine wpAny_pure (wpAny_newFunctionEnv (fun y hy => (L.names.own y hy).2) (fun y hy => absurd hy List.not_mem_nil) (fun h2 ns2 sb2 => ⟨lim.fresh _ sb2, PySem.W.kla_codeExpr ?_⟩) L.names.kind)
  have kp : ∀ b o, s1.heap.get? b = some o → h2.get? b = some o := fun b o z => sb2.extBut b o (Nat.ne_of_lt (Heap.lt_size z)) (Heap.get?_push_of_some _ z)
  have J := lam_start2 (tk := s1.toks + ([] : List (Str × Value)).length) (E := E) (c' := c') (f := f) I L.names e0 rm.hd un ns2 kp
  exact wpAny_mono ((hbody (rm.deeper _) gd).run [] _ _ HZ Q J q) (fun v s' ⟨y, H', J', r, z⟩ => ⟨y, H', J'.os, J'.bare, J'.base, J'.hok, r, z⟩) fun _ _ z => z
/-- what stands at the name a is the lambda at f: a() -/
def Act (X : Cx) (N : List Str) (x : Str) (st : Stmt) (g : Addr) (cd : Value) (s : Shared) (H : Hp) (a : Str) (f c' : Addr) (tl : XK → Hp → VK → Prop) : Prop :=
  ∀ (W : WX) (pn : List (Addr × Obj)) (xe : Value → Shared → Prop) (p1 p2 : Pos), Takes ((inDef X N x st g cd s H).tr pn xe) W →
    PE ((inDef X N x st g cd s H).tr pn xe) (.Call (.Name a p1) [] [] p2) (fun σZ HZ Q => σZ[0]? = some (some (.ref f)) ∧ HZ c' = some (CodeO c' (X.env.qual ++ "<lambda>")) ∧ ∃ E : XK, (∀ cls d H', E cls d H' → W cls d σZ H') ∧ tl E HZ Q)
theorem act_of {t : XK → TE} (I : Inv X pins σ H s) (L : LamT X.env.scope scope params body) (fo : s.heap.get? f = some (PySem.W.kla_obj "<lambda>" (X.env.qual ++ "<lambda>") params body scope (cloFrom X.env.cells scope.names []) pm c' ctv)) (fn : H f = none) (ff : f ∉ frs X.stack)
    (rm : Room (k + 2) X.A) (gd : X.A.guards = some [])
    (hbody : ∀ (A : Around) (outer : List Env) (s : Shared) (H : Hp) (E : XK), Room k (A.deeper (lamEnv X scope s.heap.objs.size f c')) → (A.deeper (lamEnv X scope s.heap.objs.size f c')).guards = some [] → PE (lamCx X A outer s H E scope f c') body (t E))
    (hN : N[0]? = some a) (hv : Vis (defScope st) a) (hd : (a == ("__debug__" : Str)) = false) (hcd : (a == ("__classdict__" : Str)) = false) : Act X N x st g cd s H a f c' (fun E HZ Q => t E σ HZ Q) := by
  intro W pn xe p1 p2 tk
  refine ⟨fun pinsZ sZ σZ HZ Q IZ ⟨at0, hco, E, hW, hq⟩ => ?_⟩
  refine wpAny_Call_Name_kw (thn ((pe_var (pos := p1) (i := 0) hN hv hd hcd).run pinsZ sZ σZ HZ (fun v H1 => v = .ref f ∧ H1 = HZ) IZ ⟨.ref f, at0, rfl, rfl⟩) fun u s1 ⟨v, H1, I1, r1, ev, eH⟩ => ?_)
  subst ev
  subst eH
  obtain rfl : u = Value.ref f := r1
  have fo1 := I1.base.keep f _ fo fn ff (fun z => nomatch (show f ∈ ([] : List Addr) from z))
  have co1 := (I1.hok c' _ hco).1
  have rc : codeAny (model X.prog X.w) (X.A.deeper (envOfC x (defScope st) s.heap.objs.size g cd)) (.call (.ref f) ⟨[], []⟩) (CR (L2.CX X.prog X.w) (envOfC x (defScope st) s.heap.objs.size g cd :: X.stack) X.prog X.w H1 s1 Q E) s1 :=
    lam_run (X := X) (k := k) (Q := Q) (E := E) (tb := t E) (params := params) (body := body) (scope := scope) (pm := pm) (ctv := ctv) (c' := c') (f := f) I L I1.env0 I1.base I1.nolimit (rm.deeper _) gd fo1 co1 (fun r2 g2 => hbody _ _ _ _ _ r2 g2) hq
  refine PySem.W.callWith_F0 ⟨_, _, _, _, fo1⟩ (wpAny_call (codeAny_mono rc fun out s' ho => ?_))
  cases out with
  | error e => exact tk e s' (XE.of_call I1 (fun cls d H' h => hW cls d H' h) ho)
  | ok fl =>
    cases fl with
    | ret u => exact I1.after ho
    | next => exact False.elim ho
    | brk => exact False.elim ho
    | cont => exact False.elim ho
/-- the def that gets it: what it makes of the lambda's reading -/
def Gives (X : Cx) (x : Str) (st : Stmt) (a : Str) (TT : (XK → Hp → VK → Prop) → Hp → VK → Prop) : Prop :=
  ∃ N : List Str, FnScope N [a] (defScope st) ∧ N[0]? = some a ∧ Vis (defScope st) a ∧ ∀ (g : Addr) (cd : Value) (f c' : Addr) (s : Shared) (H : Hp) (Q : VK) (tl : XK → Hp → VK → Prop), Act X N x st g cd s H a f c' tl → H c' = some (CodeO c' (X.env.qual ++ "<lambda>")) → TT tl H Q →
    ∃ t, PSs (inDef X N x st g cd s H).nox (defBody st) t ∧ t { nx := fun _ H' => Q .non H', rt := Q } (L2.start N [.ref f]) H
/-- x(lambda: body) -/
theorem pe_lam {T : List (Addr × Str)} {TT : (XK → Hp → VK → Prop) → Hp → VK → Prop} {t : XK → TE} {c P : Addr} {p lpos pos : Pos} (D : DefAt X.K X.mg x st [a]) (G : Gives X x st a TT) (hg : Gl X x) (TB : TabB X.base X.mg c P) (hcode : X.env.code = .ref c)
    (hmT : (P, X.env.qual ++ "<lambda>") ∈ T) (hu : ∀ p ∈ T, p.1 = P → p.2 = X.env.qual ++ "<lambda>") (rm : Room (k + 2) X.A) (gd : X.A.guards = some []) (L : LamT X.env.scope scope params body) (hdef : defaultsOf params X.env = ([], []))
    (hbody : ∀ (A : Around) (outer : List Env) (s : Shared) (H : Hp) (E : XK) (f c' : Addr), Room k (A.deeper (lamEnv X scope s.heap.objs.size f c')) → (A.deeper (lamEnv X scope s.heap.objs.size f c')).guards = some [] → PE (lamCx X A outer s H E scope f c') body (t E))
    (hdb : (x == ("__debug__" : Str)) = false := by decide) (hd : (a == ("__debug__" : Str)) = false := by decide) (hcd : (a == ("__classdict__" : Str)) = false := by decide) : PE X (.Call (.Name x p) [.Lambda params body scope lpos] [] pos) (tLam T TT t) := by
  obtain ⟨g, fd, hm, F, b⟩ := D.ex
  obtain ⟨oc, od, kV, doc, pm, an, cdv, ct, osl, rfl, lk, hcg⟩ := F.ex
  obtain ⟨N, sc, hN, hv, G⟩ := G
  refine ⟨fun pins s σ H Q I ⟨hT, h⟩ => wpAny_Call_Name_kw (ld_glob I hg hm (PySem.W.callWith_K (h₀ := X.base) I.ok.mod.kin F.kp ?_ (by rfl) (by rfl)) hdb)⟩
  show wpAny _ _ (spliced ((false, eval (.Lambda params body scope lpos) X.env) :: backTo pos (starEach [] X.env))) _ _ s
  refine spliced_cons (lam_make2 I TB hcode hmT hu hT hdef (L.names.has I.ok) fun f c' pm' ctv H1 s' I1 eN T1 fo fn ff hco => spliced_nil ⟨I1.kIn, ?_⟩)
  refine wpAny_call (codeAny_mono (run_ofS (k := k + 1) (N := N) (ps := [a]) (us := [.ref f]) (vs := [.ref f]) (E := C8.E0) (CX := C8.CX0) (Q := Q) (H := H1) (outer := X.stack) (args := ⟨[.ref f], []⟩) lk hcg sc rm I1.env0 (b s' [.ref f] I1.kIn rfl) (.cons rfl .nil) rfl fun rm2 => ?_) fun out s2 ho => ?_)
  · obtain ⟨tt, h1, h2⟩ := G g cdv f c' s' H1 Q (fun E HZ Q => t E σ HZ Q) (act_of (k := k) I1 L fo fn ff rm gd (fun A outer s H E r2 g2 => hbody A outer s H E f c' r2 g2) hN hv hd hcd) hco (h H1 eN T1)
    exact ⟨tt, h1.nox, h2⟩
  · cases out with
    | error e => exact (show False from ho).elim
    | ok fl =>
      cases fl with
      | ret u => exact I1.after ho
      | next => exact False.elim ho
      | brk => exact False.elim ho
      | cont => exact False.elim ho
end
end KG

set_option Elab.async false
set_option linter.all false
set_option maxRecDepth 100000
set_option maxHeartbeats 1000000
/-! KT: the end of a law over promises where nothing is shown, the tables of code objects of its defs known. -/
namespace KG
open PySem PySem.Spec PySem.Calls PyProof.Rows L2 LamX

/-- the abstract heap at the start: the tables, the script -/
def H0 (K : PySem.W.Frag) (T : List Addr) (a : Addr) (vs : List Value) (ns : List Int) : Hp := fun b =>
  if b ∈ T then some (.tbl #[]) else if b = a ∧ K.lookup a = none then some (.frz { cls := .type "list", data := .seq vs.toArray } (.lst (ns.map V.int))) else none
section
variable {K : PySem.W.Frag} {T : List Addr} {a : Addr} {vs : List Value} {ns : List Int}
theorem H0_tab {b : Addr} (h : b ∈ T) : H0 K T a vs ns b = some (.tbl #[]) := if_pos h
theorem H0_a (h : a ∉ T) (hk : K.lookup a = none) : H0 K T a vs ns a = some (.frz { cls := .type "list", data := .seq vs.toArray } (.lst (ns.map V.int))) := (if_neg h).trans (if_pos ⟨rfl, hk⟩)
theorem H0_some {b : Addr} {u : HO} (h : H0 K T a vs ns b = some u) : (b ∈ T ∧ u = .tbl #[]) ∨ (b ∉ T ∧ b = a ∧ K.lookup a = none ∧ u = .frz { cls := .type "list", data := .seq vs.toArray } (.lst (ns.map V.int))) := by
  by_cases h1 : b ∈ T
  · rw [H0_tab h1] at h
    exact .inl ⟨h1, (Option.some.inj h).symm⟩
  · by_cases h2 : b = a ∧ K.lookup a = none
    · have e := ((if_neg h1).trans (if_pos h2)).symm.trans h
      exact .inr ⟨h1, h2.1, h2.2, (Option.some.inj e).symm⟩
    · have e := ((if_neg h1).trans (if_neg h2)).symm.trans h
      cases e
end

theorem law_gdT {P : Program} {w : World} {K : PySem.W.Frag} {mg mb : Str → Option Value} {CX : CXT} {k : Nat} {fa a : Addr} {cs : List (Addr × Addr)} {fd : FuncData} {x : Str} {sp : Sp} {s1 : Shared} {vs : List Value} {ns : List Int}
    (kin : K.In s1.heap) (nsm : s1.heap.Ns mainGlobals mg) (nsb : s1.heap.Ns builtinsNs mb) (mbb : ∀ x : Str, x ≠ "__name__" → mb x = bootBuiltins x) (lim : s1.heap.NoLimit) (nog : s1.gens = #[])
    (tab : ∀ p ∈ cs, s1.heap.get? p.2 = some { cls := .none, data := .fields #[] }) (notK : ∀ p ∈ cs, K.lookup p.2 = none) (code : ∀ p ∈ cs, PySem.W.CodeHd s1.heap p.1 p.2)
    (bmain : ∃ (bm : Addr) (ob : Obj), mg "__builtins__" = some (.ref bm) ∧ bm ≠ builtinsNs ∧ s1.heap.get? bm = some ob ∧ ob.cls = .type "module" ∧ ob.dict = some builtinsNs ∧ ob.data = .plain)
    (atA : s1.heap.get? a = some { cls := .type "list", data := .seq vs.toArray }) (isn : IntsAre vs ns) (small : ns.length ≤ sizeLine) (rm : Room k callerA)
    (F : ∀ base : Heap, K.In base → base.Ns mainGlobals mg → (∀ p ∈ cs, TabB base mg p.1 p.2) → Gd P w K mg base CX k fa fd [x] sp) (bt : ∀ (s : Shared) (u : Value), BindsTo s fd ⟨[u], []⟩ [(x, u)])
    (start_ : ∀ H : Hp, (∀ p ∈ cs, H p.2 = some (.tbl #[])) → SqL K H a (ns.map V.int) → sp [.ref a] H (fun v _ => v = .bl true) fun _ _ _ => False)
    (quiet : ∀ H e s', CX [] H s1 (fun _ _ _ => False) e s' → False) :
    codeAny (model P w) callerA (.call (.ref fa) ⟨[.ref a], []⟩) (fun r s' => r = .ok (.ret (.bool true)) ∧ OldK s1.heap s'.heap ∧ s'.os = s1.os ∧ AllBare s'.gens) s1 := by
  have rv := vals_ints isn
  have inT : ∀ p ∈ cs, p.2 ∈ cs.map (·.2) := fun p hp => List.mem_map_of_mem hp
  have ofT : ∀ b ∈ cs.map (·.2), ∃ p ∈ cs, p.2 = b := fun b hb => List.mem_map.mp hb
  have emp : ∀ b ∈ cs.map (·.2), s1.heap.get? b = some { cls := .none, data := .fields #[] } := fun b hb => by
    obtain ⟨p, hp, e⟩ := ofT b hb
    exact e ▸ tab p hp
  have aT : a ∉ cs.map (·.2) := fun z => by
    have y := emp a z
    rw [atA] at y
    exact nomatch congrArg Obj.data (Option.some.inj y)
  -- what is no table and no list is not tracked
  have plain : ∀ {b : Addr} {o : Obj}, s1.heap.get? b = some o → o.data ≠ .fields #[] → (∀ its n, o.data ≠ .seq its n) → H0 K (cs.map (·.2)) a vs ns b = none := fun {b o} e n1 n2 => by
    cases z : H0 K (cs.map (·.2)) a vs ns b with
    | none => rfl
    | some u =>
      rcases H0_some z with ⟨y, _⟩ | ⟨_, y, _⟩
      · rw [emp b y] at e
        cases e
        exact (n1 rfl).elim
      · rw [y, atA] at e
        cases e
        exact (n2 _ _ rfl).elim
  have ofK : ∀ {b : Addr} {o : Obj}, K.lookup b = some o → H0 K (cs.map (·.2)) a vs ns b = none := fun {b o} e => by
    cases z : H0 K (cs.map (·.2)) a vs ns b with
    | none => rfl
    | some u =>
      rcases H0_some z with ⟨y, _⟩ | ⟨_, y, n, _⟩
      · obtain ⟨p, hp, ep⟩ := ofT b y
        rw [← ep, notK p hp] at e
        cases e
      · rw [y, n] at e
        cases e
  have hok : HOk P w (H0 K (cs.map (·.2)) a vs ns) s1.heap := fun b u z => by
    rcases H0_some z with ⟨y, rfl⟩ | ⟨_, rfl, _, rfl⟩
    · exact emp b y
    · exact ⟨atA, by rw [List.length_map]; exact small, vs, _, rv, atA⟩
  have sq : SqL K (H0 K (cs.map (·.2)) a vs ns) a (ns.map V.int) := by
    cases hk : K.lookup a with
    | some o =>
      have e := kin a o hk
      rw [atA] at e
      cases e
      exact .inr ⟨_, vs.toArray, _, hk, rfl, rfl, rfl, by rw [List.size_toArray, isn.length]; exact small, by simpa using rv⟩
    | none => exact .inl (.inr ⟨_, H0_a aT hk⟩)
  have keepN : ∀ {b : Addr} {m : Str → Option Value}, s1.heap.Ns b m → (hidT s1.heap (H0 K (cs.map (·.2)) a vs ns)).Ns b m := fun {b m} ⟨o, es, ep, e, d, r⟩ =>
    ⟨o, es, ep, hidT_get e (plain e (by rw [d]; exact nofun) (by rw [d]; exact nofun)), d, r⟩
  have kinH : K.In (hidT s1.heap (H0 K (cs.map (·.2)) a vs ns)) := fun b o e => hidT_get (kin b o e) (ofK e)
  have mod : Mod K mg (hidT s1.heap (H0 K (cs.map (·.2)) a vs ns)) := ⟨kinH, keepN nsm, ⟨mb, keepN nsb, mbb⟩, lim.elim fun mc h => ⟨mc, keepN h.1, h.2⟩⟩
  have tb : ∀ p ∈ cs, TabB (hidT s1.heap (H0 K (cs.map (·.2)) a vs ns)) mg p.1 p.2 := fun p hp => by
    obtain ⟨o, us, file, tf, flags, tg, inF, text, tt, e1, r1, r2, r3, rr⟩ := code p hp
    obtain ⟨bm, ob, b1, b2, b3, b4, b5, b6⟩ := bmain
    have other : ∀ {q : Addr}, q ≠ bm → True := fun _ => trivial
    refine ⟨⟨o, us, file, tf, flags, tg, inF, text, tt, hidT_get e1 (plain e1 (fun z => ?_) (by rw [r2]; exact nofun)), r1, r2, r3, rr⟩, ⟨bm, ob, b1, b2, fun z => ?_, fun z => ?_, hidT_get b3 (plain b3 (by rw [b6]; exact nofun) (by rw [b6]; exact nofun)), b4, b5, b6⟩, fun z => ?_⟩
    · rw [r2] at z
      cases z
      simp at r3
    · obtain ⟨oM, _, _, eM, dM, _⟩ := nsm
      rw [z, eM] at b3
      cases b3
      rw [b6] at dM
      cases dM
    · rw [z, tab p hp] at b3
      cases b3
      cases b6
    · obtain ⟨oM, _, _, eM, dM, _⟩ := nsm
      rw [z, tab p hp] at eM
      cases eM
      cases dM
  have e0 : Env0 P w K mg (hidT s1.heap (H0 K (cs.map (·.2)) a vs ns)) callerA [] s1 (H0 K (cs.map (·.2)) a vs ns) := ⟨rfl, mod, fun b o e => of_hidT e, Nat.le_of_eq (hidT_size _ _), trivial, fun b hb => absurd (show b ∈ ([] : List Addr) from hb) List.not_mem_nil, hok, .of_eq nog⟩
  refine codeAny_mono ((F _ kinH (keepN nsm) tb).go callerA [] s1 _ ⟨[.ref a], []⟩ [.ref a] [.ref a] _ _ rm rfl e0 (bt s1 (.ref a)) (.cons rfl .nil) (start_ _ (fun p hp => H0_tab (inT p hp)) sq)) fun r s' h => ?_
  match r, h with
  | .error e, h => exact (quiet _ e s' h).elim
  | .ok (.ret u), h =>
    obtain ⟨v, H', os, bare, un, hok', r', q⟩ := h
    have q' : v = .bl true := q
    subst q'
    obtain rfl : u = Value.bool true := r'
    have same : ∀ b o, b ∉ cs.map (·.2) → s1.heap.get? b = some o → s'.heap.get? b = some o := fun b o nb e => by
      cases z : H0 K (cs.map (·.2)) a vs ns b with
      | none => exact un.keep b o e z (by intro y; cases y) (by simp)
      | some t =>
        rcases H0_some z with ⟨y, _⟩ | ⟨_, _, _, rfl⟩
        · exact (nb y).elim
        · obtain ⟨g1, _⟩ := hok b _ z
          obtain ⟨g2, _⟩ := hok' b _ (un.frzs b _ _ z)
          rw [e] at g1
          cases g1
          exact g2
    have grown : ∀ p ∈ cs, ∃ more : Array Value, s'.heap.get? p.2 = some { cls := .none, data := .fields more } := fun p hp => by
      obtain ⟨more, z⟩ := un.tbls p.2 #[] (H0_tab (inT p hp))
      exact ⟨_, hok' p.2 _ z⟩
    refine ⟨rfl, ⟨fun b o e => ?_, fun b o e => ?_⟩, os, bare⟩
    · by_cases hb : b ∈ cs.map (·.2)
      · obtain ⟨p, hp, ep⟩ := ofT b hb
        obtain ⟨more, hm⟩ := grown p hp
        subst ep
        rw [tab p hp] at e
        cases e
        exact .inr (.inl ⟨((code p hp).tab (tab p hp)).isCodeTable, rfl, #[], more, rfl, by rw [Array.empty_append]; exact hm⟩)
      · exact .inl (same b o hb e)
    · by_cases hb : b ∈ cs.map (·.2)
      · obtain ⟨p, hp, ep⟩ := ofT b hb
        obtain ⟨more, hm⟩ := grown p hp
        exact ⟨_, ep ▸ hm⟩
      · exact ⟨o, same b o hb e⟩

/-- what the start tells of the tables of the top's defs -/
abbrev Tabs0 (q : Program) (mg : Str → Option Value) (h : Heap) : Prop :=
  ∀ d ∈ recsOf q, ∃ (a : Addr) (o : Obj) (fd : FuncData) (c P : Addr), mg d.name = some (.ref a) ∧ h.get? a = some o ∧ o.data = .func fd ∧ fd.code = .ref c ∧ h.IsCode c P #[] ∧ h.TableAt c P #[]
/-- .. of one def that the written part knows: its code object c, the table at P -/
theorem tab0 {q : Program} {K : PySem.W.Frag} {mg : Str → Option Value} {h : Heap} {x : Str} {f c P : Addr} {oc : Value} {od : Option Addr} {fd : FuncData} {sl : Array (Option Value)} (X : K.In h) (t : Tabs0 q mg h) (hr : ((recsOf q).any fun d => d.name == x) = true) (hm : mg x = some (.ref f))
    (lk : K.lookup f = some ⟨oc, od, .func fd, sl⟩) (hc : fd.code = .ref c) (hP : PySem.W.codeHdIn K c P = true) : h.get? P = some { cls := .none, data := .fields #[] } ∧ PySem.W.CodeHd h c P := by
  obtain ⟨d, hd, e⟩ := List.any_eq_true.mp hr
  obtain ⟨a', o', fd', c', P', h1, h2, h3, h4, h5, h6⟩ := t d hd
  rw [beq_iff_eq.mp e, hm] at h1
  cases h1
  rw [X _ _ lk] at h2
  cases h2
  cases h3
  rw [hc] at h4
  cases h4
  have hd1 := PySem.W.codeHd_of_K X hP
  obtain ⟨o, us, file, tf, flags, tg, inF, text, tt, e1, r1, r2, r3, rr⟩ := id hd1
  obtain ⟨⟨oc2, vc, g1, g2, g3, g4⟩, g5⟩ := h6
  rw [e1] at g1
  cases g1
  rw [r2] at g3
  cases g3
  rw [r3] at g4
  cases g4
  exact ⟨g5, hd1⟩
theorem walk_gdT {l : PySem.W.OpenLaw} {n k : Nat} {q : Program} {loose : List Str} {XP : (Str → Option Value) → Heap → Prop} {YP : World → Heap → Prop} {d : DefRec} {K : Params → PySem.W.Frag} {CX : CXT} {x : Str}
    (most : l.most = some n) (n2 : n ≤ sizeLine) (nod : d.params.defaults = []) (rm : Room k callerA)
    (hY : ∀ (w : World) (h : Heap), YP w h → (K w.params).In h)
    (F : ∀ (w : World) (mg : Str → Option Value) (fa : Addr) (h : Heap), YP w h → (K w.params).In h → h.Ns mainGlobals mg → mg d.name = some (.ref fa) → Tabs0 q mg h →
      ∃ (fd : FuncData) (cs : List (Addr × Addr)) (sp : Sp), (∀ p ∈ cs, h.get? p.2 = some { cls := .none, data := .fields #[] }) ∧ (∀ p ∈ cs, (K w.params).lookup p.2 = none) ∧ (∀ p ∈ cs, PySem.W.CodeHd h p.1 p.2) ∧ (∀ (s : Shared) (u : Value), BindsTo s fd ⟨[u], []⟩ [(x, u)]) ∧
        (∀ (H : Hp) (a : Addr) (ns : List Int), ns.length ≤ n → (∀ z ∈ ns, Builtin.Int.intBits z ≤ 1048576) → (∀ p ∈ cs, H p.2 = some (.tbl #[])) → SqL (K w.params) H a (ns.map V.int) → sp [.ref a] H (fun v _ => v = .bl true) fun _ _ _ => False) ∧
        ∀ base : Heap, (K w.params).In base → base.Ns mainGlobals mg → (∀ p ∈ cs, TabB base mg p.1 p.2) → Gd l.prog w (K w.params) mg base CX k fa fd [x] sp)
    (quiet : ∀ (H : Hp) (s : Shared) (e : Value) (s' : Shared), CX [] H s (fun _ _ _ => False) e s' → False) :
    PySem.W.WalkO q loose XP YP l.row.toRowW d [] (fun f vs => PySem.call f vs) := by
  refine Att.attach_callB most nod fun w s0 s1 mg mb fa o pm cd doc a vs ns G Y ho hd hcd hmg hobj hints hlen hbits hg => ?_
  have kin := hY w _ Y
  obtain ⟨fd, cs, sp, t1, t2, t3, hb, st, hF⟩ := F w mg fa _ Y kin G.T.g hmg G.T.tab
  exact law_gdT kin G.T.g G.T.b G.T.builtins G.T.nolimit hg t1 t2 t3 G.T.bmain hobj hints (Nat.le_trans hlen n2) rm hF hb (fun H h1 h2 => st H a ns hlen hbits h1 h2) fun H e s' => quiet H s1 e s'
end KG

set_option Elab.async false
set_option linter.all false
set_option maxRecDepth 100000
set_option maxHeartbeats 1000000
/-! KA: data of any kind, {} among them: repr, in a tuple of the written part. -/
namespace KG
open PySem PySem.Spec PySem.Calls PyProof.Rows L2

/-- x is the data d -/
def Da (H : Hp) (x : V) (d : PyData) : Prop := ∀ (X : Cx) (pins : List (Addr × Obj)) (σ : L2.St) (s : Shared) (u : Value), Inv X pins σ H s → RelV x u → ∃ as, Reads s.heap u d as
/-- .. none of its lists and dicts the table of modules -/
def Dn (H : Hp) (x : V) (d : PyData) : Prop := ∀ (X : Cx) (pins : List (Addr × Obj)) (σ : L2.St) (s : Shared) (u : Value), Inv X pins σ H s → RelV x u → ∃ as, Reads s.heap u d as ∧ sysModules ∉ as
inductive DaAll (H : Hp) : List V → List PyData → Prop
  | nil : DaAll H [] []
  | cons {x : V} {xs : List V} {d : PyData} {ds : List PyData} : Da H x d → DaAll H xs ds → DaAll H (x :: xs) (d :: ds)
section
variable {H : Hp} {x : V} {d : PyData}
theorem Dn.da (h : Dn H x d) : Da H x d := fun X pins σ s u I r => by
  obtain ⟨as, a, _⟩ := h X pins σ s u I r
  exact ⟨as, a⟩
theorem Dn.str (z : Str) : Dn H (.str z) (.str z) := fun X pins σ s u I r => by obtain ⟨t, rfl⟩ := r; exact ⟨[], .str z t, List.not_mem_nil⟩
theorem Da.non : Da H .non .none := fun X pins σ s u I r => by cases r; exact ⟨[], .none⟩
theorem Da.bl (b : Bool) : Da H (.bl b) (.bool b) := fun X pins σ s u I r => by cases r; exact ⟨[], .bool b⟩
theorem Da.int (i : Int) : Da H (.int i) (.int i) := fun X pins σ s u I r => by obtain ⟨t, rfl⟩ := r; exact ⟨[], .int i t⟩
theorem Da.str (z : Str) : Da H (.str z) (.str z) := (Dn.str z).da
theorem DaAll.reads : ∀ {xs : List V} {ds : List PyData} (_ : DaAll H xs ds) {X : Cx} {pins : List (Addr × Obj)} {σ : L2.St} {s : Shared} {us : List Value} (_ : Inv X pins σ H s) (_ : Vals xs us), ∃ as, ReadsAll s.heap us ds as
  | _, _, .nil, _, _, _, _, _, _, .nil => ⟨[], .nil⟩
  | _, _, .cons a t, X, pins, σ, s, _, I, .cons r rt => by
    obtain ⟨as, h1⟩ := a X pins σ s _ I r
    obtain ⟨bs, h3⟩ := t.reads I rt
    exact ⟨as ++ bs, .cons h1 h3⟩
theorem Da.lst {a : Addr} {xs : List V} {ds : List PyData} (h : H a = some (.lst xs)) (t : DaAll H xs ds) : Da H (.ref a) (.list ds) := fun X pins σ s u I r => by
  obtain rfl : u = Value.ref a := r
  obtain ⟨_, its, n, rv, ho⟩ := I.hok a _ h
  obtain ⟨as, h1⟩ := t.reads I rv
  exact ⟨a :: as, .list ho rfl rfl (by simpa using h1)⟩
theorem Da.tup {a : Addr} {xs : List V} {ds : List PyData} (h : H a = some (.tup xs)) (t : DaAll H xs ds) : Da H (.ref a) (.tuple ds) := fun X pins σ s u I r => by
  obtain rfl : u = Value.ref a := r
  obtain ⟨_, its, rv, ⟨o, ho, hc, n, hd⟩⟩ := I.hok a _ h
  obtain ⟨as, h1⟩ := t.reads I rv
  exact ⟨as, .tuple ho hc hd (by simpa using h1)⟩
/-- a list of two, beside the table of modules -/
theorem Dn.two {a : Addr} {z : Str} (h : H a = some (.lst [.str z, x])) (na : a ≠ sysModules) (t : Dn H x d) : Dn H (.ref a) (.list [.str z, d]) := fun X pins σ s u I r => by
  obtain rfl : u = Value.ref a := r
  obtain ⟨_, its, n, rv, ho⟩ := I.hok a _ h
  cases rv with
  | cons r1 rt =>
    obtain ⟨k, rfl⟩ := r1
    cases rt with
    | cons r2 rt =>
      cases rt
      obtain ⟨as, h1, h2⟩ := t X pins σ s _ I r2
      refine ⟨a :: ([] ++ (as ++ [])), .list ho rfl rfl (.cons (.str z k) (.cons h1 .nil)), fun hm => ?_⟩
      rcases List.mem_cons.mp hm with e | e
      · exact na e.symm
      · simp at e
        exact h2 e
theorem Dn.dict0 {a : Addr} (h : H a = some (.dK [])) : Dn H (.ref a) (.dict []) := fun X pins σ s u I r => by
  obtain rfl : u = Value.ref a := r
  obtain ⟨_, ns, vs, kv, ob, es, ep, ho, hx, hd, _, hp, _⟩ := I.hok a _ h
  cases kv
  have e : es.toList = [] := by
    cases z : es.toList with
    | nil => rfl
    | cons y ys =>
      rw [z] at hp
      cases hp
  refine ⟨[a], .dict (kvs := []) (as := []) (bs := []) ho hx.1 hd (by rw [e]; exact .nil) (by rw [e]; exact .nil), fun hb => ?_⟩
  rw [← List.mem_singleton.mp hb] at ns
  simp at ns
theorem Da.dict0 {a : Addr} (h : H a = some (.dK [])) : Da H (.ref a) (.dict []) := (Dn.dict0 h).da
end

section
variable {X : Cx}
/-- repr(x), x any data -/
def rReprA : List V → Hp → VK → Prop := fun xs H Q => ∃ x d, xs = [x] ∧ Da H x d ∧ (d.hasDict = true → Dn H x d) ∧ d.showable = true ∧ d.depth ≤ 40 ∧ d.shown.length ≤ sizeLine ∧ Q (.str d.shown) H
theorem call_reprA {k : Nat} (rm : Room k X.A) (gd : X.A.guards = some []) : CallR X (.builtin "repr") rReprA := by
  intro pins s σ H xs us Q I r h
  obtain ⟨x, d, rfl, hd, hn, sh, dp, sz, q⟩ := h
  obtain ⟨u, rfl, r1⟩ := vals1 r
  have rdn : ∃ as, Reads s.heap u d as ∧ (d.hasDict = true → sysModules ∉ as) := by
    cases z : d.hasDict with
    | false =>
      obtain ⟨as, rd⟩ := hd X pins σ s u I r1
      exact ⟨as, rd, nofun⟩
    | true =>
      obtain ⟨as, rd, n⟩ := hn z X pins σ s u I r1
      exact ⟨as, rd, fun _ => n⟩
  obtain ⟨as, rd, ha⟩ := rdn
  have room := rm.units
  have fin : ∀ (s' : Shared) (tk : Tok), Inv X pins σ H s' → EP X pins σ Q (.str d.shown tk) s' := fun s' tk J => ⟨.str d.shown, H, J, ⟨tk, rfl⟩, q⟩
  have intsz : ∀ i : Int, d = .int i → i.natAbs.log2 < 1920 := fun i e => by
    subst e
    simpa [PyData.showable] using sh
  have big : ∀ {a : Addr}, u = .ref a → wpAny (model X.prog X.w) X.A (call (.builtin "repr") [u]) (EP X pins σ Q) X.xe s := fun {a} e => by
    subst e
    exact repr_of_reads' rd sh ha gd (by omega) (fun _ _ z => z) (fun h' u tk keep => fin _ _ (I.kept (t' := tk) keep)) sz
  cases rd with
  | none =>
    rw [PyData.shown_none] at q
    exact PySem.P.repr_of_none ⟨.str _, H, I.tok _, ⟨_, rfl⟩, q⟩
  | bool b =>
    rw [PyData.shown_bool] at q
    exact PySem.P.repr_of_bool ⟨.str _, H, I.tok _, ⟨_, rfl⟩, by cases b <;> exact q⟩
  | int i t =>
    rw [PyData.shown_int] at q
    exact PySem.P.repr_of_int (intsz i rfl) ⟨.str _, H, I.tok _, ⟨_, rfl⟩, q⟩
  | str z t =>
    rw [PyData.shown_str] at q sz
    exact PySem.P.repr_of_str ⟨.str _, H, I.tok _, ⟨_, rfl⟩, q⟩ sz
  | list h1 h2 h3 h4 => exact big rfl
  | tuple h1 h2 h3 h4 => exact big rfl
  | dict h1 h2 h3 h4 h5 => exact big rfl
/-- x not in t, t a tuple of texts of the written part, x any data -/
def rNotInA (K : PySem.W.Frag) : R2 := fun x y H Q => ∃ (p : Addr) (d : PyData) (zs : List Str), y = .ref p ∧ Da H x d ∧ d.canLay0 = true ∧ d.depth ≤ 40 ∧ KTup K p (zs.map V.str) ∧ zs.all PyData.strOk = true ∧ Q (.bl (!(zs.any fun z => PyData.eqv (.str z) d))) H
theorem strs_reads {h : Heap} : ∀ {zs : List Str} {us : List Value}, Vals (zs.map V.str) us → ReadsAll h us (zs.map PyData.str) []
  | [], _, .nil => .nil
  | z :: zs, _, .cons r t => by
    obtain ⟨k, rfl⟩ := r
    exact .cons (as := []) (bs := []) (.str z k) (strs_reads t)
theorem strs_lay : ∀ {zs : List Str}, zs.all PyData.strOk = true → PyData.canLayAll0 (zs.map PyData.str) = true
  | [], _ => by simp [PyData.canLayAll0]
  | z :: zs, h => by
    rw [List.all_cons, Bool.and_eq_true] at h
    simp [PyData.canLayAll0, PyData.canLay0, strs_lay h.2, h.1]
theorem op_notInA {k : Nat} (rm : Room k X.A) : OpR X (compareOp .NotIn) (rNotInA X.K) := by
  intro pins s σ H x y v u Q I rx ry h
  obtain ⟨p, d, zs, rfl, hd, lay, dp, ⟨o, its, n, lk, hc, hdt, _, rv⟩, zok, q⟩ := h
  obtain rfl : u = Value.ref p := ry
  obtain ⟨as, rd⟩ := hd X pins σ s v I rx
  have room := rm.units
  refine SeqAt.notIn_tuple_reads (.tuple (I.kIn _ _ lk) hc hdt (strs_reads rv)) rd (strs_lay zok) lay (Nat.lt_of_le_of_lt (Nat.add_le_add_left (Nat.min_le_right _ _) _) (by omega)) ⟨.bl _, H, I, rfl, ?_⟩
  rw [List.any_map]
  exact q
end
end KG

set_option Elab.async false
set_option linter.all false
set_option maxRecDepth 100000
set_option maxHeartbeats 1000000
/-! KV: list.count of flat items; what a caught error of a known class answers. -/
namespace KG
open PySem PySem.Spec PySem.Calls PyProof.Rows L2
section
variable {X : Cx}
def rCountF (K : PySem.W.Frag) : V → List V → Hp → VK → Prop := fun x xs H Q => ∃ (p : Addr) (ys : List V) (y : V), x = .ref p ∧ xs = [y] ∧ SqL K H p ys ∧ flatV y = true ∧ ys.all flatV = true ∧ Q (.int (ys.countP fun z => eqV z y : Nat)) H
theorem count_eqU {x : V} : ∀ {xs : List V} {us : List Value}, Vals xs us → xs.all flatV = true → us.countP (eqU x) = xs.countP fun y => eqV y x
  | _, _, .nil, _ => rfl
  | y :: xs, u :: us, .cons r t, f => by
    rw [List.all_cons, Bool.and_eq_true] at f
    rw [List.countP_cons, List.countP_cons, eqU_of r f.1, count_eqU t f.2]
theorem mt_countF : MtR X "list.count" (rCountF X.K) := by
  intro pins s σ H x xs v us Q I rx rxs h
  obtain ⟨p, ys, y, rfl, rfl, hs, fy, fys, q⟩ := h
  cases rx
  obtain ⟨u, rfl, ru⟩ := vals1 rxs
  obtain ⟨its, rv, ⟨⟨cls, dd, data, sl⟩, n, ho, hc, hdn, hd⟩, hlen⟩ := I.list hs
  simp only at hc hd
  subst hc hd
  refine call_meets PySem.F.slot_list_count ⟨_, ho, rfl⟩ PySem.F.entry_list_count (PySem.F.args_list_count_2 _ _)
    (SeqAt.list_countAt p its.toArray n dd sl u (eqU y)) ⟨ho, fun u' hu' => mem_eqAt ru fy rv fys u' (by simpa using hu'), ?_⟩
  refine ⟨.int (ys.countP fun z => eqV z y : Nat), H, I.tok _, ⟨s.toks, ?_⟩, q⟩
  show Value.int ((its.toArray.toList.countP (eqU y) : Nat) : Int) s.toks = _
  rw [show its.toArray.toList = its from rfl, count_eqU rv fys]
end
/-- a list display, its place beside the table of modules -/
def NewB (Q : VK) (xs : List V) (H : Hp) : Prop := xs.length ≤ sizeLine ∧ ∀ p, H p = none → p ≠ sysModules → Q (.ref p) (upd H p (.lst xs))
def tLstB (t : TA) : TE := fun σ H Q => t σ H fun xs H1 => NewB Q xs H1
theorem pe_lstB {X : Cx} {es : List Expr} {t : TA} {pos : Pos} (h : PA X es t) : PE X (.List es pos) (tLstB t) := by
  refine ⟨fun pins s σ H Q I hq => wpAny_List_spliced (thn (h.run pos pins s σ H _ I hq) fun us s1 ⟨xs, H1, I1, r, z, q⟩ => ⟨by rw [← r.length]; exact z, ?_⟩)⟩
  exact ⟨.ref s1.heap.objs.size, _, I1.laid (t' := s1.toks) (o := .lst xs) (fun b u e => Heap.get?_push_of_some _ e) (Nat.le_refl _) ⟨z, us, 0, r, Heap.get?_push_size _ rfl⟩, rfl, q _ (I1.hok.fresh (Nat.le_refl _)) (Nat.ne_of_gt I1.big)⟩
theorem w_lstB {σ : L2.St} {H : Hp} {Q : VK} {t : TA} (q : t σ H fun xs H1 => NewB Q xs H1) : tLstB t σ H Q := q
theorem newB {xs : List V} {H : Hp} {Q : VK} (l : xs.length ≤ sizeLine) (q : ∀ (p : Addr) (H' : Hp), H p = none → p ≠ sysModules → H' p = some (.lst xs) → Same H H' → Q (.ref p) H') : NewB Q xs H :=
  ⟨l, fun p np ns => q p _ np ns upd_same fun b u e => by rw [upd_ne (ne_of_none e np)]; exact e⟩
/-! ### steps -/
section
variable {σ : L2.St} {H : Hp} {Q : VK} {K : PySem.W.Frag}
/-- isinstance of a known error, its class and dict in the heap H -/
theorem w_isE {a D dd : Addr} {fs : List (Str × V)} {c : V} {cv : Value} {b : Bool} (ha : H a = some (ErrO (.ref D) (some dd) a)) (hd : H dd = some (.xd fs)) (C : ExcC K D) (hc : ∀ u, RelV c u → u = cv) (e : PySem.W.kitOne K (.ref D) cv = some b) (q : Q (.bl b) H) : rIsErr K [.ref a, c] H Q :=
  ⟨a, D, dd, fs, c, cv, b, rfl, ha, hd, C, hc, e, q⟩
theorem w_cat {l b : Addr} {xs zs ys : List V} (h1 : H l = some (.lst xs)) (h2 : H b = some (.lst zs)) (e : xs ++ zs = ys) (z : ys.length ≤ sizeLine) (q : ∀ (p : Addr) (H' : Hp), H p = none → H' p = some (.lst ys) → Same H H' → Q (.ref p) H') : rCat (.ref l) (.ref b) H Q :=
  ⟨l, b, xs, zs, rfl, rfl, h1, h2, by rw [← List.length_append, e]; exact z, fun p np => q p _ np (by rw [e]; exact upd_same) fun b u e => by rw [upd_ne (ne_of_none e np)]; exact e⟩
theorem w_bm {T : String} {r : V → List V → Hp → VK → Prop} {to : TE} {t : TA} (q : to σ H fun x H1 => tyV K T x H1 ∧ t σ H1 fun xs H2 => r x xs H2 Q) : tBM K T r to t σ H Q := q
theorem ty_list {p : Addr} {xs : List V} (h : H p = some (.lst xs)) : tyV K "list" (.ref p) H := .inl ⟨rfl, xs, SqL.of h⟩
theorem w_app {p : Addr} {xs ys : List V} {y : V} (h : H p = some (.lst xs)) (z : xs.length < sizeLine) (e : xs ++ [y] = ys) (q : ∀ H' : Hp, H' p = some (.lst ys) → (∀ b, b ≠ p → H' b = H b) → Q .non H') : rAppend (.ref p) [y] H Q :=
  ⟨p, xs, y, rfl, rfl, h, z, q _ (by rw [e]; exact upd_same) fun b nb => upd_ne nb⟩
theorem w_count {p : Addr} {ys : List V} {y : V} {n : Nat} (h : H p = some (.lst ys)) (f : flatV y = true) (fs : ys.all flatV = true) (e : (ys.countP fun z => eqV z y) = n) (q : Q (.int (n : Nat)) H) : rCountF K (.ref p) [y] H Q :=
  ⟨p, ys, y, rfl, rfl, SqL.of h, f, fs, by rw [e]; exact q⟩
theorem w_errf {te : TE} {f : Str} (q : te σ H fun x H1 => ∃ (a C dd : Addr) (fs : List (Str × V)) (v : V), x = .ref a ∧ H1 a = some (ErrO (.ref C) (some dd) a) ∧ H1 dd = some (.xd fs) ∧ XfC K C ∧ PySem.W.findIn K (.ref C) f = some none ∧ fs.lookup f = some v ∧ Q v H1) : tErrF K te f σ H Q := q
end
end KG

set_option Elab.async false
set_option linter.all false
set_option maxRecDepth 100000
set_option maxHeartbeats 1000000
/-! KW: methods that may raise; own errors by their def. -/
namespace KG
open PySem PySem.Spec PySem.Calls PyProof.Rows L2
section
variable {P : Program} {w : World} {K : PySem.W.Frag} {mg : Str → Option Value} {base : Heap} {k : Nat} {x m qual : Str} {st : Stmt} {ps N : List Str} {sp : Sp} {C f : Addr}
theorem MetAt.gdx (D : MetAt K C m qual st ps f) (sc : FnScope N ps (defScope st)) (len : ∀ vs H Q E, sp vs H Q E → vs.length = ps.length)
    (inner : ∀ (cdv : Value) (A : Around) (outer : List Env) (s : Shared) (H : Hp) (vs : List V) (Q : VK) (E : XK),
      Room k (A.deeper (envOfC qual (defScope st) s.heap.objs.size f cdv)) → (A.deeper (envOfC qual (defScope st) s.heap.objs.size f cdv)).guards = some [] → sp vs H Q E →
      ∃ t, PSs (cxOf (L2.CX P w) P w K mg base N qual (defScope st) f cdv A outer s H E) (defBody st) t ∧ t { nx := fun _ H' => Q .non H', rt := Q } (start N vs) H) :
    ∃ fd, Meth K C m f ∧ Fun K m qual st f fd ∧ Binds K fd ps [] ∧ Gd P w K mg base (L2.CX P w) (k + 1) f fd ps sp := by
  obtain ⟨fd, a, F, b⟩ := D.ex
  exact ⟨fd, a, F, b, gdX F sc len inner⟩
end
/-- what a def that may raise lets out -/
theorem takes_cx {P : Program} {w : World} {K : PySem.W.Frag} {mg : Str → Option Value} {base : Heap} {N : List Str} {qual : Str} {sc : Scope} {f : Addr} {cd : Value} {A : Around} {outer : List Env} {s : Shared} {H : Hp} {E : XK} :
    Takes (cxOf (L2.CX P w) P w K mg base N qual sc f cd A outer s H E) (fun cls d _ H => E cls d H) := takes_of rfl rfl rfl rfl
theorem own_cx {P : Program} {w : World} {K : PySem.W.Frag} {mg : Str → Option Value} {base : Heap} {N : List Str} {qual : Str} {sc : Scope} {f : Addr} {cd : Value} {A : Around} {outer : List Env} {s : Shared} {H : Hp} {E : XK} :
    PassesOwn (model P w) (cxOf (L2.CX P w) P w K mg base N qual sc f cd A outer s H E).A (cxOf (L2.CX P w) P w K mg base N qual sc f cd A outer s H E).env (cxOf (L2.CX P w) P w K mg base N qual sc f cd A outer s H E).xe := passes_of rfl
/-- .. the lambda's frame -/
theorem takes_lam {X : Cx} {A : Around} {outer : List Env} {s : Shared} {H : Hp} {E : XK} {scope : Scope} {f c' : Addr} : Takes (LamX.lamCx X A outer s H E scope f c') (fun cls d _ H => E cls d H) := takes_of rfl rfl rfl rfl
theorem pass_lam {X : Cx} {A : Around} {outer : List Env} {s : Shared} {H : Hp} {E : XK} {scope : Scope} {f c' : Addr} : Passes (L2.CX X.prog X.w) (LamX.lamCx X A outer s H E scope f c') E := passes_call takes_lam fun _ _ _ _ h => h
theorem pass_cx {P : Program} {w : World} {K : PySem.W.Frag} {mg : Str → Option Value} {base : Heap} {N : List Str} {qual : Str} {sc : Scope} {f : Addr} {cd : Value} {A : Around} {outer : List Env} {s : Shared} {H : Hp} {E : XK} :
    Passes (L2.CX P w) (cxOf (L2.CX P w) P w K mg base N qual sc f cd A outer s H E) E := passes_call takes_cx fun _ _ _ _ h => h
/-- the def st is an error's __init__ of two lines -/
def ErrX (st : Stmt) (qual pv fld : Str) : Prop := ∃ (msg : Str) (j : Nat) (p0 p1 p2 p3 p4 p5 p6 p7 p8 p9 : Pos), defBody st = errBody msg pv fld j p0 p1 p2 p3 p4 p5 p6 p7 p8 p9 ∧ ErrT qual pv fld msg (defArgs st) (defScope st) j p0 p1 p2 p3 p4 p5 p6 p7 p8 p9
theorem pmk_errX {X : Cx} {k : Nat} {C fI : Addr} {x qual pv fld : Str} {st : Stmt} {p pos : Pos} {e : Expr} {es : List Expr} {ta : TA} (T : ErrC X.prog X.K C fI qual pv fld (defArgs st) (defBody st) (defScope st)) (TT : ErrX st qual pv fld)
    (hr : Room (k + 1) X.A) (hg : Gl X x) (hm : X.mg x = some (.ref C)) (ha : PA X (e :: es) ta)
    (hdb : (x == ("__debug__" : Str)) = false := by decide) (hs : starEach (e :: es) X.env = (false, eval e X.env) :: starEach es X.env := by rfl) (hpl : (backTo pos (starEach es X.env)).any (·.1) = false := by rfl) :
    PMk X (.Call (.Name x p) (e :: es) [] pos) (tErr C fld ta) := by
  obtain ⟨msg, j, p0, p1, p2, p3, p4, p5, p6, p7, p8, p9, hb, TT⟩ := TT
  rw [hb] at T
  exact pmk_err T TT hr hg hm ha hdb hs hpl
end KG

set_option Elab.async false
set_option linter.all false
set_option maxRecDepth 100000
set_option maxHeartbeats 1000000
/-! KZ: a text beside a dict; not in a tuple of texts. -/
namespace KG
open PySem PySem.Spec PySem.Calls PyProof.Rows L2 SeqAt
theorem sub_str_dict : isSubtype (.type "str") (.type "dict") = pure false := by rw [isSubtype_type]; kernel_rfl
theorem sub_dict_str : isSubtype (.type "dict") (.type "str") = pure false := by rw [isSubtype_type]; kernel_rfl
theorem dict_declines (l : Addr) (es : Array DictEntry) (n : Nat) (dd : Option Addr) (sl : Array (Option Value)) (b : Str) (u : Tok) :
    Meets (Builtin.«dict.__eq__» ⟨[.ref l, .str b u], []⟩) (fun _ R s => s.heap.get? l = some { cls := .type "dict", dict := dd, data := .dict es n, slots := sl } ∧ R (.ok (.ret .notImplemented)) s) :=
  .of_wp fun prog w A R s h => by
    obtain ⟨hp, g, d, tk, os⟩ := s
    obtain ⟨hl, h⟩ := h
    have f1 := sub_str_dict
    wp_walk using wpAny_loadPart' hl
    exact ⟨_, rfl, h⟩
theorem str_declines (b : Str) (u : Tok) (l : Addr) (es : Array DictEntry) (n : Nat) (dd : Option Addr) (sl : Array (Option Value)) :
    Meets (Builtin.«str.__eq__» ⟨[.str b u, .ref l], []⟩) (fun _ R s => s.heap.get? l = some { cls := .type "dict", dict := dd, data := .dict es n, slots := sl } ∧ R (.ok (.ret .notImplemented)) s) :=
  .of_wp fun prog w A R s h => by
    obtain ⟨hp, g, d, tk, os⟩ := s
    obtain ⟨hl, h⟩ := h
    have f1 := sub_dict_str
    wp_walk using wpAny_loadPart' hl
    exact ⟨_, rfl, h⟩
theorem eqAt_str_dict {A : Around} {s : Shared} {l : Addr} {es : Array DictEntry} {n : Nat} {dd : Option Addr} {sl : Array (Option Value)} (b : Str) (u : Tok) (ho : s.heap.get? l = some { cls := .type "dict", dict := dd, data := .dict es n, slots := sl }) (hu : A.units < cLine) : EqAt A s (.str b u) (.ref l) false := fun prog w E Q h => by
  unfold eqBool
  refine wpAny_holding ?_
  refine wpAny_ite_split (fun hab => absurd (eq_of_beq hab) nofun) (fun _ => ?_)
  refine wpAny_bind (rc_eq_decline_or (k := false) (typeIs_str s b u) ⟨_, ho, rfl⟩ (by decide) sub_dict_str F.slot_str_eq F.slot_dict_eq_refl
    (fun _ hq => call_meets F.slot_str_eq (typeIs_str s b u) F.entry_str_eq (F.args_str_eq_2 _ _) (str_declines b u l es n dd sl) ⟨ho, hq⟩)
    (fun _ hq => call_meets F.slot_dict_eq_refl ⟨_, ho, rfl⟩ F.entry_dict_eq (F.args_dict_eq_2 _ _) (dict_declines l es n dd sl b u) ⟨ho, hq⟩)
    (fun _ hq => wpAny_of_eq (rfl : isSame (.str b u) (.ref l) = pure false) hq) (.inr hu) (wpAny_truthy_bool h))
section
variable {X : Cx}
/-- x not in t, t a tuple of texts of the written part, x any data, {} too -/
def rNotInB (K : PySem.W.Frag) : R2 := fun x y H Q => ∃ (p : Addr) (d : PyData) (zs : List Str), y = .ref p ∧ Da H x d ∧ (d.canLay0 = true ∨ d = .dict []) ∧ d.depth ≤ 40 ∧ KTup K p (zs.map V.str) ∧ zs.all PyData.strOk = true ∧ Q (.bl (!(zs.any fun z => PyData.eqv (.str z) d))) H
theorem strs_mem : ∀ {zs : List Str} {us : List Value}, Vals (zs.map V.str) us → ∀ u ∈ us, ∃ z t, u = Value.str z t
  | [], _, .nil => fun u h => nomatch h
  | z :: zs, _, .cons r t => fun u h => by
    rcases List.mem_cons.mp h with e | e
    · obtain ⟨k, rfl⟩ := r
      exact ⟨z, k, e⟩
    · exact strs_mem t u e
theorem op_notInB {k : Nat} (rm : Room k X.A) : OpR X (compareOp .NotIn) (rNotInB X.K) := by
  intro pins s σ H x y v u Q I rx ry h
  obtain ⟨p, d, zs, rfl, hd, lay, dp, kt, zok, q⟩ := h
  rcases lay with lay | rfl
  · exact op_notInA rm pins s σ H x _ v u Q I rx ry ⟨p, d, zs, rfl, hd, lay, dp, kt, zok, q⟩
  · obtain ⟨o, its, n, lk, hc, hdt, _, rv⟩ := kt
    obtain rfl : u = Value.ref p := ry
    obtain ⟨as, rd⟩ := hd X pins σ s v I rx
    have room := rm.units
    cases rd with
    | @dict a oo es nn kvs as bs h1 h2 h3 h4 h5 =>
      obtain ⟨oc, od, odt, osl⟩ := oo
      dsimp only at h2 h3
      subst h2 h3
      refine SeqAt.notIn_tupleAt (fun _ => false) ⟨_, I.kIn _ _ lk, hc, _, hdt⟩ (fun y hy => ?_) ⟨.bl _, H, I, rfl, ?_⟩
      · obtain ⟨z, t, rfl⟩ := strs_mem rv y (by simpa using hy)
        exact eqAt_str_dict z t h1 (by show X.A.units + 1 < cLine; omega)
      · have e1 : (its.any fun _ => false) = false := by
          rw [← Array.any_toList]
          exact List.any_eq_false.mpr fun _ _ => Bool.false_ne_true
        have e2 : (zs.any fun z => PyData.eqv (.str z) (.dict [])) = false := List.any_eq_false.mpr fun z _ => by simp [PyData.eqv]
        rw [e2] at q
        rw [e1]
        exact q
end
end KG

set_option Elab.async false
set_option linter.all false
set_option maxRecDepth 100000
set_option maxHeartbeats 1000000
/-! KO: operators of own objects beside whole numbers, calls of own objects, calls by keywords alone, defaults of methods, written dicts with whole numbers as keys. -/
namespace KG
open PySem PySem.Spec PySem.Calls PyProof.Rows L2
section
variable {X : Cx} {CX : CXT} {k : Nat} {f C : Addr} {fd : FuncData} {ps ks : List Str} {sp : Sp} {E : XK} {x : Str} {p pos : Pos} {e : Expr} {es : List Expr} {kws : List Keyword} {ta t tk : TA}
/-- o op i, o an own object, i a whole number -/
def rOwnI (C : Addr) (sp : Sp) (E : XK) : R2 := fun x y H Q => ∃ (a dx : Addr) (fs : List (Str × V)) (i : Int), x = .ref a ∧ H a = some (.ins C dx fs) ∧ y = .int i ∧ sp [.ref a, .int i] H Q E
/-- what the class has for an operator -/
structure OpAt (K : PySem.W.Frag) (C f : Addr) (op : Operator) : Prop where
  first : PySem.W.selfFirst K C = true
  own : PySem.W.findIn K (.ref C) (PySem.dunder op.info.2) = some (some (.ref f))
  fn : PySem.W.isFn K (.ref f) = true
  refl : ∃ rc, PySem.W.findIn K (.ref C) (dunderR op.info.2) = some rc ∧ (rc = none ∨ ∃ g : Addr, rc = some (.ref g))
  int1 : ∃ fo, PySem.W.findIn K (.type "int") (PySem.dunder op.info.2) = some fo
  int2 : ∃ ro, PySem.W.findIn K (.type "int") (dunderR op.info.2) = some ro
  sub : PySem.W.subIn K (.type "int") (.ref C) = some false
theorem op_ownI {op : Operator} (O : OpAt X.K C f op) (F : Gd X.prog X.w X.K X.mg X.base CX k f fd ps sp) (rm : Room k X.A) (gd : X.A.guards = some []) (hb : Binds X.K fd ps []) (hx : Passes CX X E) : OpR X (binaryOp op) (rOwnI C sp E) := by
  intro pins s σ H x y v u Q I rx ry h
  obtain ⟨a, dx, fs, i, rfl, ea, rfl, q⟩ := h
  obtain rfl : v = Value.ref a := rx
  obtain ⟨t, rfl⟩ := ry
  obtain ⟨mA, J, _⟩ := ins_get I.hok ea
  obtain ⟨od, J, _⟩ := J.look
  obtain ⟨m, fr⟩ := I.fr
  obtain ⟨rc, hr, hp⟩ := O.refl
  obtain ⟨fo, h1⟩ := O.int1
  obtain ⟨ro, h2⟩ := O.int2
  have r2 : Vals [V.ref a, .int i] [Value.ref a, .int i t] := .cons rfl (.cons ⟨t, rfl⟩ .nil)
  have bt := bind_pos (dvs := []) (vs := [V.ref a, .int i]) F hb .nil I.kIn r2 q
  refine PySem.W.ksp_binT fr I.ok.mod.kin J rfl O.first O.own O.fn hr hp h1 h2 O.sub ?_
  refine wpAny_mono (run_g (us := [.ref a, .int i t]) F rm gd hx I bt r2 q) (fun v s' hv => ?_) fun _ _ z => z
  have rv : ∃ z, RelV z v := let ⟨z, _, _, rz, _⟩ := hv; ⟨z, rz⟩
  exact rv.elim fun z rz => SlX.cmpback rz hv
theorem w_own {a dx : Addr} {fs : List (Str × V)} {i : Int} {H : Hp} {Q : VK} (h : H a = some (.ins C dx fs)) (q : sp [.ref a, .int i] H Q E) : rOwnI C sp E (.ref a) (.int i) H Q := ⟨a, dx, fs, i, rfl, h, rfl, q⟩
/-! ### o(e, ..), o an own object that a name holds -/
def tOwnC (C : Addr) (sp : Sp) (E : XK) (n : Nat) (ta : TA) : TE := fun σ H Q => ∃ a : Addr, σ[n]? = some (some (.ref a)) ∧ ta σ H fun vs H1 => ∃ dx fs, H1 a = some (.ins C dx fs) ∧ sp (.ref a :: vs) H1 Q E
theorem own_with {M : Model} {A : Around} {W : Value → Shared → Prop} {s : Shared} {x C : Addr} {K : PySem.W.Frag} {args : List (Bool × Sem Value)} {Q : Value → Shared → Prop} (plain : (args.any (·.1) || ([] : List (Option Str × Sem Value)).any (·.1.isNone)) = false)
    (h : wpAny M A (evalArgs (.ref x) true args []) (fun a s1 => (∃ ox od, PySem.W.InstAt s1.heap x ox C od ∧ ox.data = .plain) ∧ wpAny M A (call (.ref x) a.pos a.kw) Q W s1) W s) : wpAny M A (callWith pos (.ref x) [] args []) Q W s := by
  unfold callWith
  refine wpAny_bind (wpAny_holding (wpAny_mono h (fun a s1 ⟨⟨ox, od, J, hd⟩, g⟩ => wpAny_bind (wpAny_standAt ?_)) fun _ _ z => z))
  simp only [plain]
  refine wpAny_bind ((PySem.W.kco_keeper (M := M) J hd).here ?_)
  have behind : ∀ {t : Sem Value}, wpAny M A t Q W s1 → wpAny M A (t >>= fun r => holding [r] point >>= fun _ => pure r) Q W s1 := fun ht =>
    wpAny_bind (wpAny_mono ht (fun r s2 hr => wpAny_bind (wpAny_holding (wpAny_point (wpAny_pure hr)))) fun _ _ z => z)
  exact behind (wpAny_operateT g)
theorem pe_ownC {n : Nat} (O : PySem.W.findIn X.K (.ref C) "__call__" = some (some (.ref f))) (fn : PySem.W.isFn X.K (.ref f) = true) (fi : PySem.W.fnIn X.K f = true) (F : Gd X.prog X.w X.K X.mg X.base CX k f fd ps sp) (rm : Room k X.A) (gd : X.A.guards = some []) (hb : Binds X.K fd ps []) (hx : Passes CX X E)
    (hv : PE X (.Name x p) (tVar n)) (ha : PA X (e :: es) ta) (he : starEach (e :: es) X.env = (false, eval e X.env) :: starEach es X.env := by rfl) (hpl : (backTo pos (starEach es X.env)).any (·.1) = false := by rfl) :
    PE X (.Call (.Name x p) (e :: es) [] pos) (tOwnC C sp E n ta) := by
  refine ⟨fun pins s σ H Q I h => ?_⟩
  obtain ⟨a, ea, q⟩ := h
  refine wpAny_Call_Name_kw (wpAny_mono (hv.run pins s σ H (fun v H' => v = .ref a ∧ ta σ H' fun vs H1 => ∃ dx fs, H1 a = some (.ins C dx fs) ∧ sp (.ref a :: vs) H1 Q E) I ⟨_, ea, rfl, q⟩) (fun u s1 hu => ?_) fun _ _ z => z)
  obtain ⟨v, H1, I1, rv, ev, q1⟩ := hu
  subst ev
  obtain rfl : u = Value.ref a := rv
  show wpAny _ _ (callWith pos (.ref a) [] (backTo pos (starEach (e :: es) X.env)) []) _ _ _
  rw [he]
  refine own_with (K := X.K) (C := C) (by show ((false || (backTo pos (starEach es X.env)).any (·.1)) || false) = false; rw [hpl]; rfl) (evalArgs_plain ?_)
  have args := ha.run pos pins s1 σ H1 _ I1 q1
  rw [he] at args
  refine wpAny_mono args (fun us s2 hs => ?_) fun _ _ z => z
  obtain ⟨vs, H2, J, r, dx, fs, ea2, q2⟩ := hs
  obtain ⟨mA, Z, _⟩ := ins_get J.hok ea2
  obtain ⟨od, Z, zd⟩ := Z.look
  refine ⟨⟨_, od, Z, by first | exact zd | rfl⟩, wpAny_call (PySem.W.kco_code J.kIn Z (by first | exact zd | rfl) O fn fi ?_)⟩
  have r1 : Vals (V.ref a :: vs) (Value.ref a :: us) := .cons rfl r
  refine codeAny_mono (F.go X.A X.stack s2 H2 ⟨.ref a :: us, []⟩ _ _ _ E rm gd J.env0 (bind_pos (dvs := []) F hb .nil J.kIn r1 (by rw [List.append_nil]; exact q2)) (by rw [List.append_nil]; exact r1) q2) fun out s' hq => ?_
  match out, hq with
  | .error e, hq => exact hx pins σ H2 s2 e s' J hq
  | .ok (.ret u), hq => exact J.after hq
/-! ### f(k = v, ..) -/
def tCallK (j : Nat) (sp : Sp) (gV : List V → List V) (E : XK) (tk : TA) : TE := fun σ H Q => tk σ H fun zs H2 => zs.length = j ∧ sp (gV zs) H2 Q E
theorem pe_gcallK {g : List Value → List Value → List Value} {gV : List V → List V → List V} (F : Gd X.prog X.w X.K X.mg X.base CX k f fd ps sp) (rm : Room k X.A) (gd : X.A.guards = some []) (gl : Gl X x) (at_ : X.mg x = some (.ref f)) (kp : PySem.W.keepIn X.K (.ref f) = true)
    (hb : KBn X.K fd ps 0 ks g gV) (hx : Passes CX X E) (hkw : PK X kws tk) (hall : (backToKw pos (keywordEach kws X.env)).all (·.1.isSome) = true := by rfl) (hks : (backToKw pos (keywordEach kws X.env)).filterMap (·.1) = ks := by rfl)
    (hdb : (x == ("__debug__" : Str)) = false := by decide) (hpl : ((backTo pos (starEach [] X.env)).any (·.1) || (backToKw pos (keywordEach kws X.env)).any (·.1.isNone)) = false := by rfl) :
    PE X (.Call (.Name x p) [] kws pos) (tCallK ks.length sp (gV []) E tk) := by
  refine ⟨fun pins s σ H Q I h => wpAny_Call_Name_kw (ld_glob I gl at_ (PySem.W.callWith_KW0 (first := []) (h₀ := X.base) I.ok.mod.kin kp hall (thn (hkw.run pos pins s σ H _ I h) fun ws s2 ⟨zs, H2, J, rz, lz, q2⟩ => ⟨J.kIn, ?_⟩) hpl) hdb)⟩
  rw [hks]
  exact run_g (us := []) F rm gd hx J (hb.to s2 [] ws J.kIn rfl (rz.length.symm.trans lz)) (hb.rel .nil rz) q2
theorem w_callK {σ : L2.St} {H : Hp} {Q : VK} {j : Nat} {gV : List V → List V} (q : tk σ H fun zs H2 => zs.length = j ∧ sp (gV zs) H2 Q E) : tCallK j sp gV E tk σ H Q := q
end
/-! ### defaults of a method -/
section
variable {P : Program} {w : World} {K : PySem.W.Frag} {mg : Str → Option Value} {base : Heap} {k : Nat} {x qual : Str} {st : Stmt} {ps N : List Str} {sp : Sp} {f : Addr} {fd : FuncData} {dvs : List V} {kws : List (Str × V)}
theorem gdD (F : FunD K x qual (defArgs st) (defBody st) (defScope st) dvs kws f fd) (sc : FnScope N ps (defScope st)) (len : ∀ vs H Q E, sp vs H Q E → vs.length = ps.length)
    (inner : ∀ (cdv : Value) (A : Around) (outer : List Env) (s : Shared) (H : Hp) (vs : List V) (Q : VK) (E : XK),
      Room k (A.deeper (envOfC qual (defScope st) s.heap.objs.size f cdv)) → (A.deeper (envOfC qual (defScope st) s.heap.objs.size f cdv)).guards = some [] → sp vs H Q E →
      ∃ t, PSs (cxOf (L2.CX P w) P w K mg base N qual (defScope st) f cdv A outer s H E) (defBody st) t ∧ t { nx := fun _ H' => Q .non H', rt := Q } (start N vs) H) :
    Gd P w K mg base (L2.CX P w) (k + 1) f fd ps sp := by
  obtain ⟨oc, od, dV, kV, doc, pm, an, cdv, ct, osl, rfl, found, code, _, _⟩ := F.ex
  exact gd_of found code sc len fun A outer s H vs Q E rm gd q => inner cdv A outer s H vs Q E rm gd q
/-- a def of the text that may raise -/
theorem gdF {x : Str} (F : Fun K x qual st f fd) (sc : FnScope N ps (defScope st)) (len : ∀ vs H Q E, sp vs H Q E → vs.length = ps.length)
    (inner : ∀ (cdv : Value) (A : Around) (outer : List Env) (s : Shared) (H : Hp) (vs : List V) (Q : VK) (E : XK),
      Room k (A.deeper (envOfC qual (defScope st) s.heap.objs.size f cdv)) → (A.deeper (envOfC qual (defScope st) s.heap.objs.size f cdv)).guards = some [] → sp vs H Q E →
      ∃ t, PSs (cxOf (L2.CX P w) P w K mg base N qual (defScope st) f cdv A outer s H E) (defBody st) t ∧ t { nx := fun _ H' => Q .non H', rt := Q } (start N vs) H) :
    Gd P w K mg base (L2.CX P w) (k + 1) f fd ps sp := gdX F sc len inner
end
/-- the def x, promised sp, which may raise -/
def CalX (P : Program) (w : World) (K : PySem.W.Frag) (mg : Str → Option Value) (base : Heap) (j : Nat) (x : Str) (ps : List Str) (sp : Sp) : Prop :=
  ∃ f fd, mg x = some (.ref f) ∧ PySem.W.keepIn K (.ref f) = true ∧ Binds K fd ps [] ∧ (∃ (oc : Value) (od : Option Addr) (osl : Array (Option Value)), K.lookup f = some ⟨oc, od, .func fd, osl⟩) ∧ Gd P w K mg base (L2.CX P w) j f fd ps sp
/-- .. called by keywords alone -/
def CalK (P : Program) (w : World) (K : PySem.W.Frag) (mg : Str → Option Value) (base : Heap) (j : Nat) (x : Str) (ks : List Str) (is : List Nat) (sp : Sp) : Prop :=
  ∃ f fd ps, mg x = some (.ref f) ∧ PySem.W.keepIn K (.ref f) = true ∧ KBn K fd ps 0 ks (fun us ws => us ++ sel is ws) (fun vs zs => vs ++ sel is zs) ∧ Gd P w K mg base (L2.CX P w) j f fd ps sp
section
variable {P : Program} {w : World} {K : PySem.W.Frag} {mg : Str → Option Value} {base : Heap} {k j : Nat} {x : Str} {st : Stmt} {ps N ks : List Str} {is : List Nat} {sp : Sp}
theorem DefAt.calX (D : DefAt K mg x st ps) (sc : FnScope N ps (defScope st)) (len : ∀ vs H Q E, sp vs H Q E → vs.length = ps.length)
    (inner : ∀ (f : Addr) (cdv : Value) (A : Around) (outer : List Env) (s : Shared) (H : Hp) (vs : List V) (Q : VK) (E : XK),
      Room k (A.deeper (envOfC x (defScope st) s.heap.objs.size f cdv)) → (A.deeper (envOfC x (defScope st) s.heap.objs.size f cdv)).guards = some [] → sp vs H Q E →
      ∃ t, PSs (cxOf (L2.CX P w) P w K mg base N x (defScope st) f cdv A outer s H E) (defBody st) t ∧ t { nx := fun _ H' => Q .non H', rt := Q } (start N vs) H) :
    CalX P w K mg base (k + 1) x ps sp := by
  obtain ⟨f, fd, a, F, b⟩ := D.ex
  have G : Gd P w K mg base (L2.CX P w) (k + 1) f fd ps sp := gdX F sc len (inner f)
  obtain ⟨oc, od, kV, doc, pm, an, cdv, ct, osl, e, found, code⟩ := F.ex
  exact ⟨f, fd, a, F.kp, b, ⟨oc, od, osl, by rw [found, e]⟩, G⟩
theorem CalX.kw (c : CalX P w K mg base j x ps sp) (D : DefAt K mg x st ps) (h : BindOkK x x st ps 0 ks is) : CalK P w K mg base j x ks is sp := by
  obtain ⟨f, fd, a, kp, b, ⟨oc, od, osl, l⟩, G⟩ := c
  obtain ⟨f', fd', a', F, _⟩ := D.ex
  rw [a] at a'
  cases a'
  have e : fd' = fd := by
    obtain ⟨_, _, _, _, _, _, _, _, _, _, found, _⟩ := F.ex
    rw [l] at found
    cases found
    rfl
  rw [e] at F
  exact ⟨f, fd, ps, a, kp, kbn_of F 0 ks is h, G⟩
end
section
variable {X : Cx} {j k : Nat} {x : Str} {ps ks : List Str} {is : List Nat} {sp : Sp} {p pos : Pos} {e : Expr} {es : List Expr} {kws : List Keyword} {t tk : TA} {E : XK}
theorem pcX (c : CalX X.prog X.w X.K X.mg X.base j x ps sp) (hx : Passes (L2.CX X.prog X.w) X E) (rm : Room k X.A) (hk : j ≤ k) (gd : X.A.guards = some []) (gl : Gl X x) (ha : PA X (e :: es) t)
    (hdb : (x == ("__debug__" : Str)) = false := by decide) (he : starEach (e :: es) X.env = (false, eval e X.env) :: starEach es X.env := by rfl) (hpl : (backTo pos (starEach es X.env)).any (·.1) = false := by rfl) :
    PE X (.Call (.Name x p) (e :: es) [] pos) (tCall sp [] E t) := by
  obtain ⟨f, fd, a, kp, b, _, F⟩ := c
  exact pe_gcall F (rm.mono hk) gd gl a kp b .nil hx ha hdb he hpl
theorem pcK (c : CalK X.prog X.w X.K X.mg X.base j x ks is sp) (hx : Passes (L2.CX X.prog X.w) X E) (rm : Room k X.A) (hk : j ≤ k) (gd : X.A.guards = some []) (gl : Gl X x) (hkw : PK X kws tk)
    (hall : (backToKw pos (keywordEach kws X.env)).all (·.1.isSome) = true := by rfl) (hks : (backToKw pos (keywordEach kws X.env)).filterMap (·.1) = ks := by rfl)
    (hdb : (x == ("__debug__" : Str)) = false := by decide) (hpl : ((backTo pos (starEach [] X.env)).any (·.1) || (backToKw pos (keywordEach kws X.env)).any (·.1.isNone)) = false := by rfl) :
    PE X (.Call (.Name x p) [] kws pos) (tCallK ks.length sp (fun zs => [] ++ sel is zs) E tk) := by
  obtain ⟨f, fd, ps, a, kp, b, F⟩ := c
  exact pe_gcallK F (rm.mono hk) gd gl a kp b hx hkw hall hks hdb hpl
end
/-! ### a written dict with whole numbers as keys -/
inductive KEnts : List DictEntry → List (Int × V) → Prop
  | nil : KEnts [] []
  | cons {e : DictEntry} {i : Int} {v : V} {es : List DictEntry} {kvs : List (Int × V)} : (∃ t, e.key = .int i t) → e.hash = hashInt i → RelV v e.val → KEnts es kvs → KEnts (e :: es) ((i, v) :: kvs)
def KID (K : PySem.W.Frag) (p : Addr) (kvs : List (Int × V)) : Prop := (p == sysModules) = false ∧ ∃ (es : List DictEntry) (n : Nat), K.lookup p = some ⟨.type "dict", none, .dict es.toArray n, #[]⟩ ∧
  KEnts es kvs
theorem kid_find {es : List DictEntry} {kvs : List (Int × V)} (h : KEnts es kvs) (i : Int) :
    (kvs.lookup i = none ∧ findBy Value.isInt es.toArray i = none) ∨ ∃ v u, kvs.lookup i = some v ∧ findBy Value.isInt es.toArray i = some u ∧ RelV v u := by
  unfold findBy
  rw [List.find?_toArray]
  induction h with
  | nil => exact .inl ⟨rfl, rfl⟩
  | @cons e j v es kvs hk _ rv t ih =>
    obtain ⟨tk, ek⟩ := hk
    have e1 : Value.isInt i e.key = decide (j = i) := by
      rw [ek]
      show (j == i) = decide (j = i)
      by_cases h : j = i
      · rw [decide_eq_true h, h]; exact beq_self_eq_true i
      · rw [decide_eq_false h]; exact beq_eq_false_iff_ne.mpr h
    by_cases z : j = i
    · subst z
      refine .inr ⟨v, e.val, by simp [List.lookup_cons], ?_, rv⟩
      rw [List.find?_cons_of_pos (by rw [e1]; exact decide_eq_true rfl)]
      rfl
    · have n1 : (i == j) = false := beq_eq_false_iff_ne.mpr (Ne.symm z)
      rw [List.lookup_cons, n1, List.find?_cons_of_neg (by rw [e1]; simpa using z)]
      exact ih
section
variable {X : Cx}
theorem kid_map {p : Addr} {kvs : List (Int × V)} {h : Heap} (kin : X.K.In h) {es : List DictEntry} {n : Nat} (l : X.K.lookup p = some ⟨.type "dict", none, .dict es.toArray n, #[]⟩) (f : KEnts es kvs) :
    h.MapOf (intKind X.prog X.w) p fun i => findBy Value.isInt es.toArray i := by
  refine ⟨_, es.toArray, n, kin _ _ l, ⟨rfl, rfl, rfl⟩, rfl, fun e he => ?_, fun _ => rfl⟩
  have he : e ∈ es := by simpa using he
  revert he
  clear l
  intro he
  rename e ∈ es.toArray => old
  clear old
  induction f with
  | nil => cases he
  | cons a hh _ _ ih =>
    rcases List.mem_cons.mp he with z | z
    · subst z
      obtain ⟨t, ek⟩ := a
      exact ⟨_, by rw [ek]; exact intKind_is _ _ _ _, hh⟩
    · exact ih z
def rInKI (K : PySem.W.Frag) : R2 := fun x y H Q => ∃ (i : Int) (p : Addr) (kvs : List (Int × V)), x = .int i ∧ y = .ref p ∧ KID K p kvs ∧ Q (.bl (kvs.lookup i).isSome) H
theorem op_inKI : OpR X (compareOp .In) (rInKI X.K) := by
  intro pins s σ H x y v u Q I rx ry h
  obtain ⟨i, p, kvs, rfl, rfl, ⟨lo, es, n, l, f⟩, q⟩ := h
  obtain ⟨t, rfl⟩ := rx
  cases ry
  refine wpAny_in_of (intKind_is X.prog X.w i t) lo (kid_map I.kIn l f) ?_
  have e : (findBy Value.isInt es.toArray i).isSome = (kvs.lookup i).isSome := by
    rcases kid_find f i with ⟨a, b⟩ | ⟨_, _, a, b, _⟩ <;> rw [a, b] <;> rfl
  rw [e]
  exact ⟨.bl (kvs.lookup i).isSome, H, I.tok _, rfl, q⟩
def rIxKI (K : PySem.W.Frag) : R2 := fun x y H Q => ∃ (i : Int) (p : Addr) (kvs : List (Int × V)) (v : V), x = .ref p ∧ y = .int i ∧ KID K p kvs ∧ kvs.lookup i = some v ∧ Q v H
theorem ix_KI : IxR X (rIxKI X.K) := by
  intro value slice pins s σ H x y v u Q I rx ry h hs
  obtain ⟨i, p, kvs, z, rfl, rfl, ⟨lo, es, n, l, f⟩, hz, q⟩ := h
  obtain rfl : v = Value.ref p := rx
  obtain ⟨t, rfl⟩ := ry
  have hm := kid_map I.kIn l f
  rcases kid_find f i with ⟨a, _⟩ | ⟨v1, u1, a, b, r⟩
  · rw [a] at hz; cases hz
  · rw [a] at hz
    cases hz
    exact tail_any hm.typeIs slot_dict_getitem.lookup (wpAny_getItem_of (intKind_is X.prog X.w i t) hm b ⟨_, H, I.tok _, r, q⟩) hs
end
/-! ### steps -/
section
variable {σ : L2.St} {H : Hp} {Q : VK} {ta tb tc : TE} {i j : Int}
/-- what a comprehension asks -/
def LcQ (J : It) (g : TG) (tt : TT) (te : TE) (vs : List Nat) (σ : L2.St) (H1 : Hp) (Q : VK) : Prop := ∀ D, H1 D = none → ∃ W : Nat → Nat → Hp → Prop, (∃ m, W 0 m (upd H1 D (.lst []))) ∧ ∀ i m H, W i m H →
  (J.stop i H ∧ Q (.ref D) H) ∨ (J.go i H ∧ ∃ Nx : Hp → Prop, (∀ H', Nx H' → ∃ m', m' < m ∧ W (i + 1) m' H') ∧ ∀ x H', J.yld i H x H' → g x (wipe σ vs) H' fun σ2 H2 => wipe σ2 vs = wipe σ vs ∧ tt σ2 H2 fun b H3 =>
    if b = true then te σ2 H3 fun y H4 => ∃ acc, H4 D = some (.lst acc) ∧ acc.length < sizeLine ∧ Nx (upd H4 D (.lst (acc ++ [y]))) else Nx H3)
theorem w_lc {wi : TI} {g : TG} {tt : TT} {te : TE} {vs : List Nat} (q : wi σ H fun J H1 => LcQ J g tt te vs σ H1 Q) : tLc wi g tt te vs σ H Q := q
theorem w_notV (q : ta σ H fun x H1 => ∃ c, x = .bl c ∧ Q (.bl (!c)) H1) : tNotV ta σ H Q := q
theorem w_chain {r r' : R2} (q : ta σ H fun x H1 => tb σ H1 fun y H2 => r x y H2 fun z H3 => ∃ k, z = .bl k ∧ (if k = true then tc σ H3 fun w' H4 => r' y w' H4 Q else Q (.bl false) H3)) : tChain r r' ta tb tc σ H Q := q
theorem w_neg (q : Q (.int (-i)) H) : rU (fun i => .int (-i)) (.int i) H Q := ⟨i, rfl, q⟩
theorem w_shl (c : CPow i j) (q : Q (.int (i * 2 ^ j.toNat)) H) : rI CPow (fun i j => .int (i * 2 ^ j.toNat)) (.int i) (.int j) H Q := ⟨i, j, rfl, rfl, c, q⟩
theorem w_shr (c : 0 ≤ j) (q : Q (.int (i / 2 ^ j.toNat)) H) : rI (fun _ j => 0 ≤ j) (fun i j => .int (i / 2 ^ j.toNat)) (.int i) (.int j) H Q := ⟨i, j, rfl, rfl, c, q⟩
end
end KG

set_option Elab.async false
set_option linter.all false
set_option maxRecDepth 100000
set_option maxHeartbeats 400000
/-! KM: words moved, kept and flipped, bit by bit. -/
namespace KG
/-- a word moved by s, cut off to w bits -/
def gN (w : Nat) (s : Int) (v : Nat) : Nat := if s < 0 then v >>> (-s).toNat else (v <<< s.toNat) % 2 ^ w
def fullN (w : Nat) : Nat := 2 ^ w - 1
/-- .. kept and flipped -/
def FN (w : Nat) (s : Int) (k f v : Nat) : Nat := (gN w s v &&& k) ^^^ f
theorem gN_bit {w : Nat} {s : Int} {v j : Nat} (hv : v < 2 ^ w) : (gN w s v).testBit j = (decide (j < w) && decide (s ≤ (j : Int)) && v.testBit ((j : Int) - s).toNat) := by
  unfold gN
  by_cases h : s < 0
  · rw [if_pos h, Nat.testBit_shiftRight]
    have e : (-s).toNat + j = ((j : Int) - s).toNat := by omega
    rw [e, decide_eq_true (show s ≤ (j : Int) by omega), Bool.and_true]
    by_cases hj : j < w
    · rw [decide_eq_true hj, Bool.true_and]
    · rw [decide_eq_false hj, Bool.false_and]
      exact Nat.testBit_lt_two_pow (Nat.lt_of_lt_of_le hv (Nat.pow_le_pow_right (by decide) (by omega)))
  · rw [if_neg h, Nat.testBit_mod_two_pow, Nat.testBit_shiftLeft]
    by_cases h2 : s ≤ (j : Int)
    · have e : j - s.toNat = ((j : Int) - s).toNat := by omega
      rw [e, decide_eq_true h2, decide_eq_true (show j ≥ s.toNat by omega), Bool.and_true, Bool.true_and]
    · rw [decide_eq_false h2, decide_eq_false (show ¬ j ≥ s.toNat by omega)]
      simp
theorem gN_lt {w : Nat} {s : Int} {v : Nat} (hv : v < 2 ^ w) : gN w s v < 2 ^ w := by
  refine Nat.lt_pow_two_of_testBit _ fun i hi => ?_
  rw [gN_bit hv, decide_eq_false (by omega)]
  rfl
theorem full_lt (w : Nat) : fullN w < 2 ^ w := Nat.sub_lt (Nat.pow_pos (by decide)) (by decide)
theorem full_bit {w j : Nat} : (fullN w).testBit j = decide (j < w) := by
  unfold fullN
  exact Nat.testBit_two_pow_sub_one w j
theorem gN_xor {w : Nat} {s : Int} {a b : Nat} (ha : a < 2 ^ w) (hb : b < 2 ^ w) : gN w s (a ^^^ b) = gN w s a ^^^ gN w s b := by
  refine Nat.eq_of_testBit_eq fun j => ?_
  rw [Nat.testBit_xor, gN_bit (Nat.xor_lt_two_pow ha hb), gN_bit ha, gN_bit hb, Nat.testBit_xor]
  cases decide (j < w) <;> cases decide (s ≤ (j : Int)) <;> simp
theorem gN_zero {w : Nat} {s : Int} : gN w s 0 = 0 := by
  unfold gN
  split <;> simp
theorem FN_zero {w : Nat} {s : Int} {k f : Nat} : FN w s k f 0 = f := by
  unfold FN
  rw [gN_zero]
  simp
theorem FN_lt {w : Nat} {s : Int} {k f v : Nat} (hk : k < 2 ^ w) (hf : f < 2 ^ w) : FN w s k f v < 2 ^ w := Nat.xor_lt_two_pow (Nat.and_lt_two_pow _ hk) hf
/-- three results make a fourth -/
theorem FN_xor {w : Nat} {s : Int} {k f a b : Nat} (ha : a < 2 ^ w) (hb : b < 2 ^ w) : FN w s k f (a ^^^ b) = FN w s k f a ^^^ FN w s k f b ^^^ FN w s k f 0 := by
  rw [FN_zero]
  unfold FN
  rw [gN_xor ha hb]
  refine Nat.eq_of_testBit_eq fun j => ?_
  simp only [Nat.testBit_xor, Nat.testBit_and]
  cases (gN w s a).testBit j <;> cases (gN w s b).testBit j <;> cases k.testBit j <;> cases f.testBit j <;> rfl
/-- what agrees at 0 and at the single bits below t agrees below 2 ^ t -/
theorem agree_below {F G : Nat → Nat} {w : Nat} (hF : ∀ a b, a < 2 ^ w → b < 2 ^ w → F (a ^^^ b) = F a ^^^ F b ^^^ F 0) (hG : ∀ a b, a < 2 ^ w → b < 2 ^ w → G (a ^^^ b) = G a ^^^ G b ^^^ G 0) (h0 : F 0 = G 0) :
    ∀ t, t ≤ w → (∀ i, i < t → F (2 ^ i) = G (2 ^ i)) → ∀ v, v < 2 ^ t → F v = G v
  | 0, _, _, v, hv => by
    have : v = 0 := by simpa using hv
    rw [this, h0]
  | t + 1, ht, hs, v, hv => by
    by_cases lo : v < 2 ^ t
    · exact agree_below hF hG h0 t (by omega) (fun i hi => hs i (by omega)) v lo
    · have up : v.testBit t = true := Nat.testBit_of_two_pow_le_and_two_pow_add_one_gt (by omega) hv
      have hu : v ^^^ 2 ^ t < 2 ^ t := by
        refine Nat.lt_pow_two_of_testBit _ fun i hi => ?_
        rw [Nat.testBit_xor, Nat.testBit_two_pow]
        by_cases e : t = i
        · subst e
          rw [up, decide_eq_true rfl]
          rfl
        · rw [decide_eq_false e, Bool.xor_false]
          exact Nat.testBit_lt_two_pow (Nat.lt_of_lt_of_le hv (Nat.pow_le_pow_right (by decide) (by omega)))
      have ev : v = (v ^^^ 2 ^ t) ^^^ 2 ^ t := by
        rw [Nat.xor_assoc, Nat.xor_self, Nat.xor_zero]
      have big : 2 ^ t < 2 ^ w := Nat.pow_lt_pow_right (by decide) (by omega)
      have ih := agree_below hF hG h0 t (by omega) (fun i hi => hs i (by omega)) _ hu
      rw [ev, hF _ _ (Nat.lt_trans hu big) big, hG _ _ (Nat.lt_trans hu big) big, ih, hs t (by omega), h0]
/-- the kept bits that have a source -/
def kN (w : Nat) (s : Int) (k : Nat) : Nat := k &&& gN w s (fullN w)
theorem kN_bit {w : Nat} {s : Int} {k j : Nat} : (kN w s k).testBit j = (k.testBit j && (decide (j < w) && decide (s ≤ (j : Int)) && decide (((j : Int) - s).toNat < w))) := by
  unfold kN
  rw [Nat.testBit_and, gN_bit (full_lt w), full_bit]
def sN (w : Nat) (s : Int) (k : Nat) : Int := if kN w s k = 0 then 0 else s
theorem FN_norm {w : Nat} {s : Int} {k f v : Nat} : FN w (sN w s k) (kN w s k) f v = FN w s (kN w s k) f v := by
  unfold FN sN
  by_cases h : kN w s k = 0
  · rw [h]; simp
  · rw [if_neg h]
/-- bit j of the result -/
theorem FN_bit {w : Nat} {s : Int} {k f v j : Nat} (hv : v < 2 ^ w) : (FN w s (kN w s k) f v).testBit j =
    ((k.testBit j && (decide (j < w) && decide (s ≤ (j : Int)) && decide (((j : Int) - s).toNat < w)) && v.testBit ((j : Int) - s).toNat) ^^ f.testBit j) := by
  unfold FN
  rw [Nat.testBit_xor, Nat.testBit_and, kN_bit, gN_bit hv]
  cases k.testBit j <;> cases decide (j < w) <;> cases decide (s ≤ (j : Int)) <;> cases decide (((j : Int) - s).toNat < w) <;> simp
theorem single_bit {w : Nat} {s : Int} {k f i j : Nat} (hi : i < w) : (FN w s (kN w s k) f (2 ^ i)).testBit j = (((kN w s k).testBit j && decide (((j : Int) - s).toNat = i)) ^^ f.testBit j) := by
  rw [FN_bit (Nat.pow_lt_pow_right (by decide) hi), kN_bit, Nat.testBit_two_pow]
  have e : decide (i = ((j : Int) - s).toNat) = decide (((j : Int) - s).toNat = i) := by
    by_cases h : i = ((j : Int) - s).toNat
    · rw [decide_eq_true h, decide_eq_true h.symm]
    · rw [decide_eq_false h, decide_eq_false fun z => h z.symm]
  rw [e]
theorem kN_sub {w : Nat} {s s' : Int} {k k' f f' : Nat} (h0 : f = f') (h : ∀ i, i < w → FN w s (kN w s k) f (2 ^ i) = FN w s' (kN w s' k') f' (2 ^ i)) {j : Nat} (hj : (kN w s k).testBit j = true) :
    (kN w s' k').testBit j = true ∧ s' = s := by
  have b := hj
  rw [kN_bit] at b
  simp only [Bool.and_eq_true, decide_eq_true_eq] at b
  obtain ⟨_, ⟨b1, b2⟩, b3⟩ := b
  have e := congrArg (fun x => Nat.testBit x j) (h _ b3)
  rw [single_bit b3, single_bit b3, hj, h0] at e
  simp only [decide_eq_true, Bool.and_true] at e
  have t : ((kN w s' k').testBit j && decide (((j : Int) - s').toNat = ((j : Int) - s).toNat)) = true := by
    revert e
    cases ((kN w s' k').testBit j && decide (((j : Int) - s').toNat = ((j : Int) - s).toNat)) <;> cases f'.testBit j <;> simp
  rw [Bool.and_eq_true, decide_eq_true_eq] at t
  refine ⟨t.1, ?_⟩
  have b' := t.1
  rw [kN_bit] at b'
  simp only [Bool.and_eq_true, decide_eq_true_eq] at b'
  obtain ⟨_, ⟨_, c2⟩, _⟩ := b'
  have t2 := t.2
  omega
/-- normal forms of equal functions are equal -/
theorem norm_unique {w : Nat} {s s' : Int} {k k' f f' : Nat} (h0 : FN w s (kN w s k) f 0 = FN w s' (kN w s' k') f' 0) (h : ∀ i, i < w → FN w s (kN w s k) f (2 ^ i) = FN w s' (kN w s' k') f' (2 ^ i)) :
    f = f' ∧ kN w s k = kN w s' k' ∧ sN w s k = sN w s' k' := by
  rw [FN_zero, FN_zero] at h0
  have ek : kN w s k = kN w s' k' := by
    refine Nat.eq_of_testBit_eq fun j => ?_
    cases a : (kN w s k).testBit j with
    | true => exact ((kN_sub h0 h a).1).symm
    | false =>
      cases b : (kN w s' k').testBit j with
      | false => rfl
      | true => rw [(kN_sub h0.symm (fun i hi => (h i hi).symm) b).1] at a; cases a
  refine ⟨h0, ek, ?_⟩
  unfold sN
  by_cases z : kN w s k = 0
  · rw [if_pos z, if_pos (ek ▸ z)]
  · rw [if_neg z, if_neg (ek ▸ z)]
    have some_ : ∃ j, (kN w s k).testBit j = true := by
      by_cases q : ∃ j, (kN w s k).testBit j = true
      · exact q
      · exact absurd (Nat.eq_of_testBit_eq fun j => by
          rw [Nat.zero_testBit]
          exact Bool.eq_false_iff.mpr fun t => q ⟨j, t⟩) z
    obtain ⟨j, hj⟩ := some_
    exact (kN_sub h0 h hj).2.symm
/-- 0 and the single bits -/
def probes (w : Nat) : List Nat := 0 :: (List.range w).map (2 ^ ·)
/-- the first of the probes that parts -/
theorem probes_first {w : Nat} {p : Nat → Bool} {v : Nat} (h : (probes w).find? p = some v) : p v = true ∧ (v = 0 ∨ ∃ t, t < w ∧ v = 2 ^ t ∧ p 0 = false ∧ ∀ i, i < t → p (2 ^ i) = false) := by
  have pv := List.find?_some h
  refine ⟨pv, ?_⟩
  unfold probes at h
  rw [List.find?_cons] at h
  cases p0 : p 0 with
  | true => rw [p0] at h; cases h; exact .inl rfl
  | false =>
    rw [p0] at h
    right
    obtain ⟨l, r, e, hl⟩ := List.find?_eq_some_iff_append.mp h |>.2
    have el := congrArg List.length e
    rw [List.length_map, List.length_range, List.length_append, List.length_cons] at el
    have at_ : ∀ i, i < w → ((List.range w).map (2 ^ ·))[i]? = some (2 ^ i) := fun i hi => by simp [hi]
    refine ⟨l.length, by omega, ?_, rfl, fun i hi => ?_⟩
    · have a := at_ l.length (by omega)
      rw [e] at a
      simpa using a
    · have a := at_ i (by omega)
      rw [e, List.getElem?_append_left hi] at a
      have m := hl _ (List.mem_of_getElem? a)
      simpa using m
theorem probes_none {w : Nat} {p : Nat → Bool} (h : (probes w).find? p = none) : p 0 = false ∧ ∀ i, i < w → p (2 ^ i) = false := by
  have q := List.find?_eq_none.mp h
  refine ⟨?_, fun i hi => ?_⟩
  · simpa using q 0 (by simp [probes])
  · simpa using q (2 ^ i) (by simp [probes]; exact ⟨i, hi, rfl⟩)
/-- .. is the first of all words that parts -/
theorem range_first {F G : Nat → Nat} {w : Nat} (hF : ∀ a b, a < 2 ^ w → b < 2 ^ w → F (a ^^^ b) = F a ^^^ F b ^^^ F 0) (hG : ∀ a b, a < 2 ^ w → b < 2 ^ w → G (a ^^^ b) = G a ^^^ G b ^^^ G 0) :
    (List.range (2 ^ w)).find? (fun v => decide (F v ≠ G v)) = (probes w).find? (fun v => decide (F v ≠ G v)) := by
  have no : ∀ {v}, decide (F v ≠ G v) = false → F v = G v := fun h => by simpa using h
  cases h : (probes w).find? (fun v => decide (F v ≠ G v)) with
  | none =>
    obtain ⟨a, b⟩ := probes_none h
    refine List.find?_eq_none.mpr fun v hv => ?_
    have q := agree_below hF hG (no a) w (Nat.le_refl _) (fun i hi => no (b i hi)) v (List.mem_range.mp hv)
    simp [q]
  | some v =>
    obtain ⟨pv, z⟩ := probes_first h
    have lt : v < 2 ^ w ∧ ∀ u, u < v → F u = G u := by
      rcases z with rfl | ⟨t, ht, rfl, p0, ps⟩
      · exact ⟨Nat.pow_pos (by decide), fun u hu => absurd hu (Nat.not_lt_zero _)⟩
      · exact ⟨Nat.pow_lt_pow_right (by decide) ht, fun u hu => agree_below hF hG (no p0) t (by omega) (fun i hi => no (ps i hi)) u hu⟩
    refine List.find?_range_eq_some.mpr ⟨pv, List.mem_range.mpr lt.1, fun u hu => ?_⟩
    simp [lt.2 u hu]
theorem below_first {F G : Nat → Nat} {w v u : Nat} (hF : ∀ a b, a < 2 ^ w → b < 2 ^ w → F (a ^^^ b) = F a ^^^ F b ^^^ F 0) (hG : ∀ a b, a < 2 ^ w → b < 2 ^ w → G (a ^^^ b) = G a ^^^ G b ^^^ G 0)
    (h : (probes w).find? (fun v => decide (F v ≠ G v)) = some v) (hu : u < v) : F u = G u := by
  have no : ∀ {v}, decide (F v ≠ G v) = false → F v = G v := fun h => by simpa using h
  obtain ⟨pv, z⟩ := probes_first h
  rcases z with rfl | ⟨t, ht, rfl, p0, ps⟩
  · exact absurd hu (Nat.not_lt_zero _)
  · exact agree_below hF hG (no p0) t (by omega) (fun i hi => no (ps i hi)) u hu
/-- a number put together bit by bit -/
theorem bits_step {x p : Nat} : x % 2 ^ p + (x.testBit p).toNat * 2 ^ p = x % 2 ^ (p + 1) := by
  rw [Nat.mod_pow_succ, Nat.toNat_testBit, Nat.mul_comm]
open PySem in
theorem and_pow {x : Int} {n : Nat} (h : 0 ≤ x) : Builtin.bitAnd x (1 * 2 ^ n - 1) = x % 2 ^ n := by
  obtain ⟨m, rfl⟩ := Int.eq_ofNat_of_zero_le h
  have p : 0 < 2 ^ n := Nat.pow_pos (by decide)
  have e : (1 * 2 ^ n - 1 : Int) = ((2 ^ n - 1 : Nat) : Int) := by
    rw [Int.natCast_sub p]
    simp
  rw [e]
  unfold Builtin.bitAnd
  rw [decide_eq_true (Int.natCast_nonneg m), decide_eq_true (Int.natCast_nonneg _)]
  show ((m &&& (2 ^ n - 1) : Nat) : Int) = _
  rw [Nat.and_two_pow_sub_one_eq_mod]
  simp
end KG

set_option Elab.async false
set_option linter.all false
set_option maxRecDepth 100000
set_option maxHeartbeats 1000000
/-! KP: operators with a whole number on the left of an own object, in-place forms of own operators, the unary one. -/
namespace KG
open PySem PySem.Spec PySem.Calls PyProof.Rows L2
/-- what a whole number's own operator says beside an own object -/
def Nay (op : Operator) (idl : String) : Prop := ∀ (prog : Program) (w : World) (A : Around) (E : Value → Shared → Prop) (s : Shared) (i : Int) (t : Tok) (x C dx : Addr) (Q : Option Value → Shared → Prop), s.heap.get? x = some (PySem.W.instObj C dx) → Q none s → wpAny (model prog w) A (tryMethod (.int i t) (PySem.dunder op.info.2) (.ref x)) Q E s
theorem meets_and (i : Int) (t : Tok) (x C dx : Addr) : Meets (Builtin.«int.__and__» ⟨[.int i t, .ref x], []⟩) (fun _ R s => s.heap.get? x = some (PySem.W.instObj C dx) ∧ R (.ok (.ret Value.notImplemented)) s) :=
  .of_wp fun prog w A R s h => by
    obtain ⟨hp, g, d, tk, os⟩ := s
    obtain ⟨hl, h⟩ := h
    wp_walk using wpAny_loadPart' hl
    exact ⟨_, rfl, h⟩
theorem nay_and : Nay .BitAnd "int.__and__" := by
  intro prog w A E s i t x C dx Q ho q
  exact wpAny_tryMethod_declines (name := PySem.dunder "and") (typeIs_int s i t) PyProof.Rows.slot_int_and (call_meets PyProof.Rows.slot_int_and (typeIs_int s i t) PyProof.Rows.entry_int_and (PyProof.Rows.args_int_and _ _) (meets_and i t x C dx) ⟨ho, rfl, q⟩)
theorem meets_or (i : Int) (t : Tok) (x C dx : Addr) : Meets (Builtin.«int.__or__» ⟨[.int i t, .ref x], []⟩) (fun _ R s => s.heap.get? x = some (PySem.W.instObj C dx) ∧ R (.ok (.ret Value.notImplemented)) s) :=
  .of_wp fun prog w A R s h => by
    obtain ⟨hp, g, d, tk, os⟩ := s
    obtain ⟨hl, h⟩ := h
    wp_walk using wpAny_loadPart' hl
    exact ⟨_, rfl, h⟩
theorem nay_or : Nay .BitOr "int.__or__" := by
  intro prog w A E s i t x C dx Q ho q
  exact wpAny_tryMethod_declines (name := PySem.dunder "or") (typeIs_int s i t) PyProof.Rows.slot_int_or (call_meets PyProof.Rows.slot_int_or (typeIs_int s i t) PyProof.Rows.entry_int_or (PyProof.Rows.args_int_or _ _) (meets_or i t x C dx) ⟨ho, rfl, q⟩)
theorem meets_xor (i : Int) (t : Tok) (x C dx : Addr) : Meets (Builtin.«int.__xor__» ⟨[.int i t, .ref x], []⟩) (fun _ R s => s.heap.get? x = some (PySem.W.instObj C dx) ∧ R (.ok (.ret Value.notImplemented)) s) :=
  .of_wp fun prog w A R s h => by
    obtain ⟨hp, g, d, tk, os⟩ := s
    obtain ⟨hl, h⟩ := h
    wp_walk using wpAny_loadPart' hl
    exact ⟨_, rfl, h⟩
theorem nay_xor : Nay .BitXor "int.__xor__" := by
  intro prog w A E s i t x C dx Q ho q
  exact wpAny_tryMethod_declines (name := PySem.dunder "xor") (typeIs_int s i t) PyProof.Rows.slot_int_xor (call_meets PyProof.Rows.slot_int_xor (typeIs_int s i t) PyProof.Rows.entry_int_xor (PyProof.Rows.args_int_xor _ _) (meets_xor i t x C dx) ⟨ho, rfl, q⟩)
section
variable {prog : Program} {w : World} {A : Around} {E : Value → Shared → Prop} {s : Shared} {K : PySem.W.Frag} {x C dx f g : Addr} {od : Option Obj} {h₀ : Heap} {L : Addr} {m : Str → Option Value} {op : Operator} {idl : String} {i : Int} {t : Tok}
/-- i op o, o an own object whose class has the operator on both sides -/
theorem back_side {Q : Value → Shared → Prop} (X : K.In s.heap) (I : PySem.W.InstAt s.heap x (PySem.W.instObj C dx) C od) (hc : PySem.W.selfFirst K C = true)
    (hs : PySem.W.findIn K (.ref C) (PySem.dunder op.info.2) = some (some (.ref f))) (hr : PySem.W.findIn K (.ref C) (dunderR op.info.2) = some (some (.ref g))) (hg : PySem.W.isFn K (.ref g) = true)
    (hsub : PySem.W.subIn K (.ref C) (.type "int") = some false) (fills : fillsNumberSlot (.type "int") op.info.2 = pure true) (no : Nay op idl)
    (q : wpAny (model prog w) A (call (.ref g) [.ref x, .int i t]) (PySem.W.CmpBack Q) E s) : wpAny (model prog w) A (binaryOp op (.int i t) (.ref x)) Q E s := by
  obtain ⟨cd, rest, ec, em⟩ := PySem.W.ksp_first hc
  have fl := PySem.W.fills_K (M := model prog w) X ec em hs
  have tx := I.type (M := model prog w)
  have tr := PySem.W.ksp_try (M := model prog w) (A := A) (E := E) X I hr hg q
  have tl : ∀ Q', Q' none s → wpAny (model prog w) A (tryMethod (.int i t) (PySem.dunder op.info.2) (.ref x)) Q' E s := fun Q' z => no prog w A E s i t x C dx Q' I.at_ z
  have sb := PySem.W.looks_subIn (M := model prog w) X hsub
  rcases ho : op.info with ⟨sym, nm⟩
  rw [ho] at fl tr tl fills
  simp only at fl tr tl fills
  have ne : (Value.type "int" == Value.ref C) = false := rfl
  have np : numberSlotInPython (.type "int") nm = pure false := rfl
  simp only [binaryOp, ho]
  refine wpAny_holding (wpAny_bind ?_)
  unfold binaryOp1
  refine wpAny_bind (wpAny_typeOf (typeIs_int s i t) (wpAny_bind (tx.here (wpAny_bind (wpAny_of_eq fills ?_)))))
  simp only [ne, Bool.false_eq_true, if_false]
  refine wpAny_bind (fl.here ?_)
  simp only [Bool.and_self, if_true]
  refine wpAny_bind (sb.here ?_)
  simp only [Bool.false_eq_true, if_false, pure_bind, Bool.not_false, Bool.and_self, if_true, np]
  refine wpAny_bind (tl _ ?_)
  refine wpAny_bind (wpAny_mono tr (fun r s' z => ?_) fun _ _ z => z)
  obtain ⟨v, rfl, z⟩ := z
  exact wpAny_bind (wpAny_rule (wpAny_pure (wpAny_pure z)))
/-- what o op i asks and does, o an own object whose class has the operator, i a whole number -/
theorem fore_side {Q : Option Value → Shared → Prop} {rc ro : Option Value} (X : K.In s.heap) (I : PySem.W.InstAt s.heap x (PySem.W.instObj C dx) C od) (hc : PySem.W.selfFirst K C = true)
    (hs : PySem.W.findIn K (.ref C) (PySem.dunder op.info.2) = some (some (.ref f))) (hf : PySem.W.isFn K (.ref f) = true) (hr : PySem.W.findIn K (.ref C) (dunderR op.info.2) = some rc) (hp : rc = none ∨ ∃ b : Addr, rc = some (.ref b))
    (hsub : PySem.W.subIn K (.type "int") (.ref C) = some false) (fills : fillsNumberSlot (.type "int") op.info.2 = pure true) (hi : PySem.W.findIn K (.type "int") (dunderR op.info.2) = some ro)
    (q : wpAny (model prog w) A (call (.ref f) [.ref x, .int i t]) (PySem.W.CmpBack fun v => Q (some v)) E s) : wpAny (model prog w) A (binaryOp1 op.info.2 (.ref x) (.int i t)) Q E s := by
  obtain ⟨cd, rest, ec, em⟩ := PySem.W.ksp_first hc
  have fl := PySem.W.fills_K (M := model prog w) X ec em hs
  have tx := I.type (M := model prog w)
  have tr := PySem.W.ksp_try (M := model prog w) (A := A) (E := E) (Q := fun v => Q (some v)) X I hs hf q
  have py := PySem.W.ksp_inPy (M := model prog w) X hs hr hp
  have sb := PySem.W.looks_subIn (M := model prog w) X hsub
  have lr := PySem.W.looks_findIn (M := model prog w) X hi
  generalize op.info.2 = nm at fl tr py lr fills
  have ne : (Value.ref C == Value.type "int") = false := rfl
  have np : numberSlotInPython (.type "int") nm = pure false := rfl
  unfold binaryOp1
  refine wpAny_bind (tx.here (wpAny_bind (wpAny_typeOf (typeIs_int s i t) (wpAny_bind (fl.here ?_)))))
  simp only [ne, Bool.false_eq_true, if_false]
  refine wpAny_bind (wpAny_of_eq fills ?_)
  simp only [Bool.and_self, if_true]
  refine wpAny_bind (sb.here ?_)
  simp only [Bool.false_eq_true, if_false, pure_bind, Bool.not_false, Bool.and_self, if_true]
  refine wpAny_bind (py.here ?_)
  simp only [if_true, np, pure_bind, Bool.not_false]
  refine wpAny_bind (lr.here ?_)
  refine wpAny_bind (wpAny_mono tr (fun r s' z => ?_) fun _ _ z => z)
  obtain ⟨v, rfl, z⟩ := z
  exact wpAny_pure z
theorem none_any {M : Model} {h : Heap} {i' : Str} {g' : Value → Option Value → Sem Bool} (X : K.In h) (z : ∀ c, g' c none = pure false) : ∀ {cs : List Value}, (∀ c ∈ cs, PySem.W.findIn K c i' = some none) →
    PySem.W.Looks M h (cs.anyM fun c => typeLookup c i' >>= g' c) false
  | [], _ => .of_pure rfl
  | c :: cs, a => fun A Q E s k q => by
    rw [List.anyM_cons]
    refine wpAny_bind (wpAny_bind ((PySem.W.looks_findIn X (a c (.head _))) A _ E s k ?_))
    rw [z c]
    refine wpAny_pure ?_
    simp only [Bool.false_eq_true, if_false]
    exact none_any X z (fun c' m => a c' (.tail _ m)) A Q E s k q
/-- a class that has no in-place form of an operator -/
theorem no_inp {M : Model} {h : Heap} {cd : ClassData} {nm : String} {add : Bool} (X : K.In h) (hc : PySem.W.clsIn K C = some cd) (hn : ∀ c ∈ cd.mro, PySem.W.findIn K c (dunderI nm) = some none) : PySem.W.Looks M h (fillsInplaceSlot (.ref C) nm add) false := fun A Q E s k q => by
  have Lm : PySem.W.Looks M h (mroOf (.ref C)) cd.mro := (PySem.W.looks_clsIn X hc).andThen (f := fun cd => pure cd.mro) .now
  unfold fillsInplaceSlot
  exact wpAny_bind (Lm A _ E s k (none_any X (fun _ => rfl) hn A Q E s k q))
/-- o op= i where the class has the operator and no in-place form of it -/
theorem inp_side {Q : Value → Shared → Prop} {cd : ClassData} {rc ro : Option Value} (X : K.In s.heap) (I : PySem.W.InstAt s.heap x (PySem.W.instObj C dx) C od) (hc : PySem.W.selfFirst K C = true) (hd : PySem.W.clsIn K C = some cd) (hn : ∀ c ∈ cd.mro, PySem.W.findIn K c (dunderI op.info.2) = some none)
    (hs : PySem.W.findIn K (.ref C) (PySem.dunder op.info.2) = some (some (.ref f))) (hf : PySem.W.isFn K (.ref f) = true) (hr : PySem.W.findIn K (.ref C) (dunderR op.info.2) = some rc) (hp : rc = none ∨ ∃ b : Addr, rc = some (.ref b))
    (hsub : PySem.W.subIn K (.type "int") (.ref C) = some false) (fills : fillsNumberSlot (.type "int") op.info.2 = pure true) (hi : PySem.W.findIn K (.type "int") (dunderR op.info.2) = some ro)
    (q : wpAny (model prog w) A (call (.ref f) [.ref x, .int i t]) (PySem.W.CmpBack Q) E s) : wpAny (model prog w) A (inplaceOp op (.ref x) (.int i t)) Q E s := by
  have tx := I.type (M := model prog w)
  have nf := no_inp (M := model prog w) (nm := op.info.2) (add := op == .Add) X hd hn
  unfold inplaceOp
  refine wpAny_holding (wpAny_bind (tx.here (wpAny_bind (nf.here ?_))))
  simp only [Bool.false_eq_true, if_false, pure_bind]
  refine wpAny_bind (fore_side X I hc hs hf hr hp hsub fills hi (wpAny_mono q (fun v s' z => ?_) fun _ _ z => z))
  cases v <;> first | exact z.elim | exact wpAny_pure z
end
section
variable {X : Cx} {CX : CXT} {k : Nat} {f g C : Addr} {fd : FuncData} {ps : List Str} {sp : Sp} {E : XK} {op : Operator} {idl : String}
/-- i op o, i a whole number, o an own object -/
def rBackI (C : Addr) (sp : Sp) (E : XK) : R2 := fun x y H Q => ∃ (a dx : Addr) (fs : List (Str × V)) (i : Int), y = .ref a ∧ H a = some (.ins C dx fs) ∧ x = .int i ∧ sp [.ref a, .int i] H Q E
/-- what the class has for an operator from behind -/
structure BackAt (K : PySem.W.Frag) (C f g : Addr) (op : Operator) (idl : String) : Prop where
  first : PySem.W.selfFirst K C = true
  own : PySem.W.findIn K (.ref C) (PySem.dunder op.info.2) = some (some (.ref f))
  back : PySem.W.findIn K (.ref C) (dunderR op.info.2) = some (some (.ref g))
  fn : PySem.W.isFn K (.ref g) = true
  sub : PySem.W.subIn K (.ref C) (.type "int") = some false
  fills : fillsNumberSlot (.type "int") op.info.2 = pure true
  nay : Nay op idl
/-- what the class has for an in-place form -/
structure InAt (K : PySem.W.Frag) (C f : Addr) (op : Operator) : Prop extends OpAt K C f op where
  none_ : ∃ cd, PySem.W.clsIn K C = some cd ∧ ∀ c ∈ cd.mro, PySem.W.findIn K c (dunderI op.info.2) = some none
  fills : fillsNumberSlot (.type "int") op.info.2 = pure true
theorem op_backI (O : BackAt X.K C f g op idl) (F : Gd X.prog X.w X.K X.mg X.base CX k g fd ps sp) (rm : Room k X.A) (gd : X.A.guards = some []) (hb : Binds X.K fd ps []) (hx : Passes CX X E) : OpR X (binaryOp op) (rBackI C sp E) := by
  intro pins s σ H x y v u Q I rx ry h
  obtain ⟨a, dx, fs, i, rfl, ea, rfl, q⟩ := h
  obtain ⟨t, rfl⟩ := rx
  obtain rfl : u = Value.ref a := ry
  obtain ⟨mA, J, _⟩ := ins_get I.hok ea
  obtain ⟨od, J, _⟩ := J.look
  have r2 : Vals [V.ref a, .int i] [Value.ref a, .int i t] := .cons rfl (.cons ⟨t, rfl⟩ .nil)
  have bt := bind_pos (dvs := []) (vs := [V.ref a, .int i]) F hb .nil I.kIn r2 q
  refine back_side I.kIn J O.first O.own O.back O.fn O.sub O.fills O.nay ?_
  refine wpAny_mono (run_g (us := [.ref a, .int i t]) F rm gd hx I bt r2 q) (fun v s' hv => ?_) fun _ _ z => z
  have rv : ∃ z, RelV z v := let ⟨z, _, _, rz, _⟩ := hv; ⟨z, rz⟩
  exact rv.elim fun z rz => SlX.cmpback rz hv
theorem op_inI (O : InAt X.K C f op) (F : Gd X.prog X.w X.K X.mg X.base CX k f fd ps sp) (rm : Room k X.A) (gd : X.A.guards = some []) (hb : Binds X.K fd ps []) (hx : Passes CX X E) : OpR X (inplaceOp op) (rOwnI C sp E) := by
  intro pins s σ H x y v u Q I rx ry h
  obtain ⟨a, dx, fs, i, rfl, ea, rfl, q⟩ := h
  obtain rfl : v = Value.ref a := rx
  obtain ⟨t, rfl⟩ := ry
  obtain ⟨mA, J, _⟩ := ins_get I.hok ea
  obtain ⟨od, J, _⟩ := J.look
  obtain ⟨rc, hr, hp⟩ := O.refl
  obtain ⟨ro, h2⟩ := O.int2
  obtain ⟨cd, hc, hn⟩ := O.none_
  have r2 : Vals [V.ref a, .int i] [Value.ref a, .int i t] := .cons rfl (.cons ⟨t, rfl⟩ .nil)
  have bt := bind_pos (dvs := []) (vs := [V.ref a, .int i]) F hb .nil I.kIn r2 q
  refine inp_side I.kIn J O.first hc hn O.own O.fn hr hp O.sub O.fills h2 ?_
  refine wpAny_mono (run_g (us := [.ref a, .int i t]) F rm gd hx I bt r2 q) (fun v s' hv => ?_) fun _ _ z => z
  have rv : ∃ z, RelV z v := let ⟨z, _, _, rz, _⟩ := hv; ⟨z, rz⟩
  exact rv.elim fun z rz => SlX.cmpback rz hv
/-- ~o, o an own object -/
def rInvO (C : Addr) (sp : Sp) (E : XK) : V → Hp → VK → Prop := fun x H Q => ∃ (a dx : Addr) (fs : List (Str × V)), x = .ref a ∧ H a = some (.ins C dx fs) ∧ sp [.ref a] H Q E
theorem un_inv (O : PySem.W.findIn X.K (.ref C) "__invert__" = some (some (.ref f))) (fn : PySem.W.isFn X.K (.ref f) = true) (F : Gd X.prog X.w X.K X.mg X.base CX k f fd ps sp) (rm : Room k X.A) (gd : X.A.guards = some []) (hb : Binds X.K fd ps []) (hx : Passes CX X E) : UnR X (unaryOp .Invert) (rInvO C sp E) := by
  intro pins s σ H x v Q I rx h
  obtain ⟨a, dx, fs, rfl, ea, q⟩ := h
  obtain rfl : v = Value.ref a := rx
  obtain ⟨mA, J, _⟩ := ins_get I.hok ea
  obtain ⟨od, J, _⟩ := J.look
  obtain ⟨m, fr⟩ := I.fr
  have r2 : Vals [V.ref a] [Value.ref a] := .cons rfl .nil
  have bt := bind_pos (dvs := []) (vs := [V.ref a]) F hb .nil I.kIn r2 q
  exact PySem.W.ksp_inv fr I.ok.mod.kin J O fn (wpAny_mono (run_g (us := [.ref a]) F rm gd hx I bt r2 q) (fun v s' hv => hv) fun _ _ z => z)
theorem w_backO {a dx : Addr} {fs : List (Str × V)} {i : Int} {H : Hp} {Q : VK} (h : H a = some (.ins C dx fs)) (q : sp [.ref a, .int i] H Q E) : rBackI C sp E (.int i) (.ref a) H Q := ⟨a, dx, fs, i, rfl, h, rfl, q⟩
theorem w_invO {a dx : Addr} {fs : List (Str × V)} {H : Hp} {Q : VK} (h : H a = some (.ins C dx fs)) (q : sp [.ref a] H Q E) : rInvO C sp E (.ref a) H Q := ⟨a, dx, fs, rfl, h, q⟩
end
end KG

set_option Elab.async false
set_option linter.all false
set_option maxRecDepth 100000
set_option maxHeartbeats 1000000
/-! KQ: properties and classmethods whose defs are known where nothing is being shown. -/
namespace KG
open PySem PySem.Spec PySem.Calls PyProof.Rows L2
section
variable {X : Cx} {CX : CXT} {k : Nat} {C p g : Addr} {mc : Value} {fd : FuncData} {ps : List Str} {sp : Sp} {E : XK} {o e : Expr} {es : List Expr} {m : Str} {pos apos : Pos} {ta : TE} {t : TA}
/-- o.m, a property -/
theorem pe_gprop (he : PE X o ta) (c : Cls X.K C) (P : PropOf X.K C m p g) (F : Gd X.prog X.w X.K X.mg X.base CX k g fd ps sp) (rm : Room (k + 1) X.A) (gd : X.A.guards = some []) (hb : Binds X.K fd ps []) (hx : Passes CX X.nox E)
    (ab : attributeBase o m X.env (eval o X.env) = eval o X.env := by rfl) : PE X (.Attribute o m pos) (tProp C sp [] E ta) := by
  refine ⟨fun pins s σ H Q I z => attr_of ab (thn (he.run pins s σ H _ I z) fun u s1 z1 => ?_)⟩
  obtain ⟨_, H1, J, ru, a, dx, fs, rfl, ea, q⟩ := z1
  obtain rfl : u = Value.ref a := ru
  obtain ⟨mA, O, _⟩ := ins_get J.hok ea
  obtain ⟨od, O, _⟩ := O.look
  obtain ⟨tail, isP⟩ := P.rec_
  have isC : (PySem.W.clsIn X.K C).isSome = true := let ⟨_, w, _⟩ := PySem.W.any_some c.hd; w ▸ rfl
  have J1 := J.tok (s1.toks + 1)
  have pg := PySem.W.plainGet_of (c.get m)
  refine PySem.W.get_bind J.kIn O pg.1 (PySem.W.findObj_data isC P.at_ P.get P.tak) pg.2 (wpAny_call (PySem.W.prop_get (s := { s1 with toks := s1.toks + 1 }) J.kIn isP ?_))
  have r1 : Vals [V.ref a] [Value.ref a] := .cons rfl .nil
  have bt := bind_pos (dvs := []) (vs := [V.ref a]) F hb .nil J1.kIn r1 q
  refine codeAny_mono (F.go X.A.in1 X.stack { s1 with toks := s1.toks + 1 } H1 ⟨[.ref a], []⟩ _ _ Q E rm.in1 gd J1.env0.in1 bt r1 q) fun out s2 z2 => ?_
  match out, z2 with
  | .error er, z2 => exact (hx pins σ H1 { s1 with toks := s1.toks + 1 } er s2 (J1.wish _) z2).elim
  | .ok (.ret u), z2 =>
    obtain ⟨v, H2, J2, rv, q2⟩ := J1.after z2
    show wpAny _ _ (handedOut u) _ _ _
    rw [PySem.W.handedOut_of (handed_of rv)]
    exact wpAny_pure ⟨v, H2, J2, rv, q2⟩
/-- o.m(e, ..), o the class, m a classmethod -/
theorem pe_gcm {pl : Sem Bool} (he : PE X o ta) (r : ClX.CRead X.K C mc) (c : ClX.CMet X.K C mc m p g) (F : Gd X.prog X.w X.K X.mg X.base CX k g fd ps sp) (rm : Room k X.A) (gd : X.A.guards = some []) (hb : Binds X.K fd ps []) (hx : Passes CX X E) (ha : PA X (e :: es) t)
    (hst : starEach (e :: es) X.env = (false, eval e X.env) :: starEach es X.env := by rfl) (hpl : (backTo pos (starEach es X.env)).any (·.1) = false := by rfl)
    (ht : eval (.Call (.Attribute o m apos) (e :: es) [] pos) X.env = (do
      let w ← eval o X.env
      standAt apos.atName
      let (g, a) ← holding [w] (getMethod w m pl)
      callWith pos g a (backTo pos (starEach (e :: es) X.env)) (backToKw pos (keywordEach [] X.env))) := by rfl) :
    PE X (.Call (.Attribute o m apos) (e :: es) [] pos) (ClX.tCMeth C sp E ta t) := by
  refine ⟨fun pins s σ H Q I z => PySem.W.methodCall_KW (pl := pl) (thn (he.run pins s σ H _ I z) fun u s1 z1 => ?_) ht⟩
  obtain ⟨_, H1, J, ru, rfl, q⟩ := z1
  obtain rfl : u = Value.ref C := ru
  refine ClX.getmethcm_ok J r c fun s2 J2 => ClX.callwith_cm J2 (ClX.base_none J (Nat.le_refl _)) c.fi (thn (ha.run pos _ s2 σ H1 _ J2 q) fun us s3 z3 => ?_) hst hpl
  obtain ⟨vs, H2, J3, rv, q2⟩ := z3
  have r1 : Vals (V.ref C :: vs) (Value.ref C :: us) := .cons rfl rv
  have bt := bind_pos (dvs := []) (vs := V.ref C :: vs) F hb .nil J3.kIn r1 (by rw [List.append_nil]; exact q2)
  refine ⟨⟨ClX.pin_at J3, J3.kIn⟩, ?_⟩
  have run : wpAny (model X.prog X.w) X.A (call (.ref s1.heap.objs.size) us) (EP X ((s1.heap.objs.size, PySem.W.methodObj (.ref g) (.ref C)) :: pins) σ Q) X.xe s3 := by
    refine wpAny_call (PySem.W.method_call (ClX.pin_at J3) (codeAny_mono (F.go X.A X.stack s3 H2 ⟨.ref C :: us, []⟩ _ _ _ E rm gd J3.env0 bt (by rw [List.append_nil]; exact r1) q2) fun out s4 z4 => ?_))
    match out, z4 with
    | .error er, z4 => exact hx _ σ H2 s3 er s4 J3 z4
    | .ok (.ret v), z4 => exact J3.after z4
  exact thn run fun _ _ y => ClX.unpinE y
/-- x(e, ..), x a place that holds the class -/
def tMakeV (C : Addr) (sp : Sp) (dvs : List V) (E : XK) (n : Nat) (ta : TA) : TE := fun σ H Q => σ[n]? = some (some (.ref C)) ∧ ta σ H fun vs H1 => Make C sp (fun z => z :: (vs ++ dvs)) E H1 Q
theorem pe_gmakeV {f : Addr} {x : Str} {n : Nat} {ds : List Value} {dvs : List V} (M : Mk X.K C f) (F : Gd X.prog X.w X.K X.mg X.base CX k f fd ps sp) (rm : Room (k + 1) X.A) (gd : X.A.guards = some []) (hv : PE X (.Name x apos) (tVar n)) (hb : Binds X.K fd ps ds) (hd : Vals dvs ds) (hx : Passes CX X E) (ha : PA X (e :: es) t)
    (hst : starEach (e :: es) X.env = (false, eval e X.env) :: starEach es X.env := by rfl) (hpl : (backTo pos (starEach es X.env)).any (·.1) = false := by rfl) : PE X (.Call (.Name x apos) (e :: es) [] pos) (tMakeV C sp dvs E n t) := by
  refine ⟨fun pins s σ H Q I z => ?_⟩
  obtain ⟨ec, q⟩ := z
  refine wpAny_Call_Name_kw (thn (hv.run pins s σ H (fun v H' => v = .ref C ∧ t σ H' fun vs H1 => Make C sp (fun z => z :: (vs ++ dvs)) E H1 Q) I ⟨_, ec, rfl, q⟩) fun u s1 z1 => ?_)
  obtain ⟨_, H1, J, ru, rfl, q1⟩ := z1
  obtain rfl : u = Value.ref C := ru
  refine PySem.W.callWith_K (h₀ := X.base) I.ok.mod.kin M.kp (thn (ha.run pos pins s1 σ H1 _ J q1) fun us s2 z2 => ?_) hst hpl
  obtain ⟨vs, H2, J2, rv, q2⟩ := z2
  have all : ∀ y : Addr, Vals (V.ref y :: vs ++ dvs) (Value.ref y :: us ++ ds) := fun y => .cons rfl (rv.append hd)
  have many : ∀ y : Addr, (Value.ref y :: us ++ ds).length = ps.length := fun y => by
    rw [← (all y).length, ← F.len _ _ _ _ (q2 (s2.heap.objs.size + 1) s2.heap.objs.size (J2.hok.fresh (Nat.le_succ _)) (J2.hok.fresh (Nat.le_refl _)) (Nat.ne_of_lt (Nat.lt_succ_self _)))]
    rfl
  exact ⟨J2.kIn, run_gmake (fun y => y :: us ++ ds) (fun y => y :: vs ++ dvs) M F rm gd (fun s y KX => hb s (.ref y :: us) KX (many y)) all hx J2 q2⟩
end
end KG

set_option Elab.async false
set_option linter.all false
set_option maxRecDepth 100000
set_option maxHeartbeats 1000000
/-! KY: a choice within a generator's body. -/
namespace KG
open PySem PySem.Spec PySem.Calls PyProof.Rows L2
section
variable {X : Cx} {test : Expr} {a b : List Stmt} {pos : Pos} {tc : TT} {ta tb : TGn}
def tGIf (tc : TT) (ta tb : TGn) : TGn := fun D ys σ H => tc σ H fun d H1 => if d = true then ta D ys σ H1 else tb D ys σ H1
theorem gs_if (hc : PT X test tc) (ha : GSs X a ta) (hb : GSs X b tb) : GS X (.If test a b pos) (tGIf tc ta tb) := by
  refine ⟨fun A S ip R n ys s₀ c fs K J gd lv s σ H D g hn k hI z => ?_⟩
  obtain ⟨acc, cc, r, I⟩ := hI
  rw [exec_If]
  refine seg_at ?_
  show Seg _ _ _ _ _ _ _ ((isTrue test X.env (eval test X.env) >>= fun d => if d = true then execs a X.env else execs b X.env).wrap K J gd lv) fs s
  rw [Sem.bind_eq_wrap', Sem.wrap_wrap]
  refine seg_wrap ?_
  rw [g.over]
  refine wpAny_mono (hc.run _ s σ H _ I z) (fun d s' z1 => ?_) fun x s' hx => k.exc n s₀ x s' hx
  obtain ⟨H1, I1, q⟩ := z1
  cases d with
  | true => exact ha.run A S ip R n ys s₀ c fs K J gd lv s' σ H1 D g hn k ⟨acc, cc, r, I1⟩ q
  | false => exact hb.run A S ip R n ys s₀ c fs K J gd lv s' σ H1 D g hn k ⟨acc, cc, r, I1⟩ q
end
end KG

set_option Elab.async false
set_option linter.all false
set_option maxRecDepth 100000
set_option maxHeartbeats 1000000
namespace KG
open PySem PySem.Spec PySem.Calls PyProof.Rows L2
section
variable {M : Model} {A : Around} {R : GenEnd} {Y : Protocol} {n : Nat} {s₀ s : Shared} {c : Code} {fs : List Frame} {env : Env} {K : Flow → Sem PySem.Fin} {J : Value → Sem PySem.Fin} {gd : Bool → Bool} {lv : List Value → List Value} {target iter : Expr} {body : List Stmt} {pos : Pos}
/-- a loop over items within a generator's body: up to the loop's own code -/
theorem seg_forIn (hs : ∀ x, foldedSetIterable iter env x = pure x)
    (h : wpAny M (A.over c fs) (eval iter env) (fun x s1 => wpAny M (A.over c fs) (pyIter x) (fun it s2 => ∀ p, Seg M A R Y n s₀ (.forLoop target it body [] env) (M.den (.forLoop target it body [] env))
      (.ret (fun r => ((match r with | .ok f => (.pure f : Sem Flow) | .error e => .raise e).onRaise (cameBack env)).wrap K J gd lv) none (gd false) (lv []) c p [] :: fs) s2) (fun x s' => Seg M A R Y n s₀ c (J x) fs s') s1) (fun x s' => Seg M A R Y n s₀ c (J x) fs s') s) :
    Seg M A R Y n s₀ c ((exec (.For target iter body [] pos) env).wrap K J gd lv) fs s := by
  rw [exec_For]
  refine seg_at ?_
  show Seg _ _ _ _ _ _ _ ((eval iter env >>= fun v => foldedSetIterable iter env v >>= fun x => standAt iter.pos >>= fun _ => holding [x] (pyIter x) >>= fun it => runOwn (.forLoop target it body [] env) env).wrap K J gd lv) fs s
  rw [Sem.bind_eq_wrap', Sem.wrap_wrap]
  refine seg_wrap (wpAny_mono h (fun x s1 h1 => ?_) fun _ _ z => z)
  rw [hs x]
  show Seg _ _ _ _ _ _ _ ((standAt iter.pos >>= fun _ => holding [x] (pyIter x) >>= fun it => runOwn (.forLoop target it body [] env) env).wrap K J gd lv) fs s1
  refine seg_at ?_
  show Seg _ _ _ _ _ _ _ ((holding [x] (pyIter x) >>= fun it => runOwn (.forLoop target it body [] env) env).wrap K J gd lv) fs s1
  rw [Sem.bind_eq_wrap', Sem.wrap_wrap]
  refine seg_wrap (wpAny_holding (wpAny_mono h1 (fun it s2 h2 => ?_) fun _ _ z => z))
  exact seg_call h2
end
section
variable {prog : Program} {w : World} {A : Around} {R : GenEnd} {Y : Protocol} {n : Nat} {s₀ s : Shared} {fs : List Frame} {env : Env} {target : Expr} {it : Value} {body : List Stmt}
/-- an exception in a loop's code within a generator's body -/
def SegX (prog : Program) (w : World) (A : Around) (R : GenEnd) (Y : Protocol) (n : Nat) (s₀ : Shared) (c : Code) (fs : List Frame) (env : Env) (x : Value) (s : Shared) : Prop :=
  Seg (model prog w) A R Y n s₀ c ((do noteFrame x env; theTreesLotGoes x : Sem Unit).bind fun _ => (.raise x : Sem PySem.Fin)) fs s
theorem seg_forTurn
    (h : wpAny (model prog w) (A.over (.forLoop target it body [] env) fs) (pyNext it) (fun r s1 => match r with
      | none => Seg (model prog w) A R Y n s₀ (.forLoop target it body [] env) (.pure (.again (.block [] env))) fs s1
      | some v => wpAny (model prog w) (A.over (.forLoop target it body [] env) fs) (letOwnedTupleGo target it v) (fun _ s2 => wpAny (model prog w) (A.over (.forLoop target it body [] env) fs) (assign target env v) (fun _ s3 =>
          Seg (model prog w) A R Y n s₀ (.forLoop target it body [] env) ((execs body env).wrap (fun f => match f with
            | .next | .cont => .pure (.again (.forLoop target it body [] env))
            | .brk => .pure (.done .next)
            | .ret v => .pure (.done (.ret v))) (fun x => (do noteFrame x env; theTreesLotGoes x : Sem Unit).bind fun _ => .raise x) id id) fs s3)
          (SegX prog w A R Y n s₀ (.forLoop target it body [] env) fs env) s2) (SegX prog w A R Y n s₀ (.forLoop target it body [] env) fs env) s1)
      (SegX prog w A R Y n s₀ (.forLoop target it body [] env) fs env) s) :
    Seg (model prog w) A R Y n s₀ (.forLoop target it body [] env) ((model prog w).den (.forLoop target it body [] env)) fs s := by
  show Seg _ A R Y n s₀ _ ((forTurn target it body [] env).onRaise (fun x => do noteFrame x env; theTreesLotGoes x)) fs s
  rw [Sem.onRaise_eq_wrap]
  unfold forTurn
  refine seg_at ?_
  show Seg _ A R Y n s₀ _ (Sem.wrap _ _ _ _ ((pyNext it).onRaise (fun _ => standAt { target.pos with line := 0 }) >>= _)) fs s
  rw [Sem.bind_eq_wrap', Sem.wrap_wrap]
  refine seg_wrap (wpAny_onRaise (wpAny_mono h (fun r s1 h1 => ?_) fun x s1 h1 => wpAny_standAt h1))
  cases r with
  | none => exact h1
  | some v =>
    show Seg _ A R Y n s₀ _ (Sem.wrap _ _ _ _ (letOwnedTupleGo target it v >>= _)) fs s1
    rw [Sem.bind_eq_wrap', Sem.wrap_wrap]
    refine seg_wrap (wpAny_mono h1 (fun _ s2 h2 => ?_) fun x s2 h2 => h2)
    show Seg _ A R Y n s₀ _ (Sem.wrap _ _ _ _ (assign target env v >>= _)) fs s2
    rw [Sem.bind_eq_wrap', Sem.wrap_wrap]
    refine seg_wrap (wpAny_mono h2 (fun _ s3 h3 => ?_) fun x s3 h3 => h3)
    show Seg _ A R Y n s₀ _ (Sem.wrap _ _ _ _ (execs body env >>= _)) fs s3
    rw [Sem.bind_eq_wrap', Sem.wrap_wrap]
    refine Eq.mp (congrArg (fun z => Seg (model prog w) A R Y n s₀ (.forLoop target it body [] env) z fs s3) (Sem.wrap_congr (execs body env) id id (fun f => ?_) (fun e => ?_))) h3
    · cases f <;> rfl
    · rfl
end
end KG

set_option Elab.async false
set_option linter.all false
set_option maxRecDepth 100000
set_option maxHeartbeats 1000000
namespace KG
open PySem PySem.Spec PySem.Calls PyProof.Rows L2
section
variable {X : Cx} {tg iter : Expr} {body : List Stmt} {wi : TI} {g : TG} {tb : TGn} {pos : Pos}
/-- for within a generator's body: W tells turn, measure, what is out, the places, the heap -/
def tGFor (wi : TI) (g : TG) (tb : TGn) : TGn := fun D ys σ H => wi σ H fun J H1 => ∃ W : Nat → Nat → List V → L2.St → Hp → Prop, (∃ m, W 0 m ys σ H1) ∧ ∀ i m ys σ H, W i m ys σ H →
  (J.stop i H ∧ D.nx ys σ H) ∨ (J.go i H ∧ ∃ N : List V → L2.St → Hp → Prop, (∀ ys' σ' H', N ys' σ' H' → ∃ m', m' < m ∧ W (i + 1) m' ys' σ' H') ∧ ∀ x H', J.yld i H x H' → g x σ H' fun σ2 H2 => tb { D with nx := N, ct := N, bk := D.nx } ys σ2 H2)
theorem fp_pins {pins pins' : List (Addr × Obj)} {H H' : Hp} {b : Addr} (f : FpOk X pins H b) (n : H' b = none) (e : pins'.map (·.1) = pins.map (·.1)) : FpOk X pins' H' b := by
  obtain ⟨_, f1, f2, f3, f4, f5⟩ := f
  refine ⟨n, f1, f2, f3, f4, fun p hp => ?_⟩
  rcases List.mem_append.mp hp with h | h
  · exact f5 p (List.mem_append_left _ h)
  · have : p.1 ∈ pins.map (·.1) := e ▸ List.mem_map_of_mem h
    obtain ⟨q, hq, eq⟩ := List.mem_map.mp this
    exact eq ▸ f5 q (List.mem_append_right _ hq)
theorem gs_for (hp : PassesOwn (model X.prog X.w) X.A X.env X.xe) (hc : X.calm = true) (hi : PI X tg iter wi) (hg : PG X tg g) (hb : GSs X body tb) (hs : ∀ x, foldedSetIterable iter X.env x = pure x := by intro _; rfl) : GS X (.For tg iter body [] pos) (tGFor wi g tb) := by
  refine ⟨fun A S ip R n ys s₀ c fs K J gd lv s σ H D gc hn k hI ht => ?_⟩
  obtain ⟨acc, cc, r, I⟩ := hI
  refine seg_forIn hs ?_
  rw [gc.over]
  refine wpAny_mono (hi.run _ s σ H _ I ht) (fun v s1 h1 => wpAny_mono h1 (fun itv s2 h2 p => ?_) fun x s' hx => k.exc n s₀ x s' hx) fun x s' hx => k.exc n s₀ x s' hx
  obtain ⟨it, fp, tn, Jt, H2, rfl, I2, T, st2, f2, W, ⟨m0, w0⟩, turn⟩ := h2
  have gl := fun (kk : Result → Sem PySem.Fin) => gc_loop (k := kk) (c' := .forLoop tg (.ref it) body [] X.env) (l := lv []) (kp := []) (p := p) gc rfl rfl
  have loop : ∀ (m i n : Nat) (ys : List V) (s₀ s : Shared) (σ : L2.St) (H : Hp) (acc : Array Value) (cc : Nat), n + ys.length = sizeLine → W i m ys σ H → Vals ys acc.toList → Inv X ((S, lstObj acc cc) :: ip) σ H s → tn i s.heap → (∀ b ∈ fp, FpOk X ((S, lstObj acc cc) :: ip) H b) →
      Seg (model X.prog X.w) A R (GY X S) n s₀ (.forLoop tg (.ref it) body [] X.env) ((model X.prog X.w).den (.forLoop tg (.ref it) body [] X.env))
        (.ret (fun r => ((match r with | .ok f => (.pure f : Sem Flow) | .error e => .raise e).onRaise (cameBack X.env)).wrap K J gd lv) none (gd false) (lv []) c p [] :: fs) s := by
    intro m
    induction m using Nat.strongRecOn with
    | ind m ih =>
      intro i n ys s₀ s σ H acc cc hn w r I st ff
      have ee : ∀ (n : Nat) (s₀ : Shared) (x : Value) (s' : Shared), X.xe x s' → SegX X.prog X.w A R (GY X S) n s₀ (.forLoop tg (.ref it) body [] X.env)
          (.ret (fun r => ((match r with | .ok f => (.pure f : Sem Flow) | .error e => .raise e).onRaise (cameBack X.env)).wrap K J gd lv) none (gd false) (lv []) c p [] :: fs) X.env x s' := fun n s₀ x s' hx => by
        unfold SegX
        rw [Sem.bind_eq_wrap]
        refine seg_wrap ?_
        rw [(gl _).over]
        refine wpAny_bind (wpAny_mono (hp x s' hx) (fun _ s'' hcb => wpAny_theTreesLotGoes ?_) fun y s'' hcb => ?_)
        · exact seg_leaf (.error x) (seg_cameBack gc k hcb)
        · exact seg_leaf (.error y) (seg_cameBack gc k hcb)
      refine seg_forTurn ?_
      rw [(gl _).over]
      rcases turn i m ys σ H w with ⟨stop, qn⟩ | ⟨go, N, hN, step⟩
      · refine wpAny_mono (T.done X rfl rfl rfl hc i _ s σ H X.xe I ff st stop) (fun o s4 z => ?_) fun x s' hx => ee n s₀ x s' hx
        obtain ⟨rfl, I4⟩ := z
        refine seg_again rfl ?_
        exact seg_leaf (.ok .next) (k.ok n ys s₀ s4 .next hn ⟨σ, H, ⟨acc, cc, r, I4⟩, qn⟩)
      · refine wpAny_mono (T.item X rfl rfl rfl hc i _ s σ H X.xe I ff st go) (fun o s4 z => ?_) fun x s' hx => ee n s₀ x s' hx
        obtain ⟨u, rfl, h4⟩ := z
        refine wpAny_mono h4 (fun _ s5 z => ?_) fun x s' hx => ee n s₀ x s' hx
        obtain ⟨x, H5, I5, r5, y5, st5, fr5⟩ := z
        have ff5 : ∀ b ∈ fp, FpOk X ((S, lstObj acc cc) :: ip) H5 b := fun b hb => fp_pins (ff b hb) (fr5 b hb) rfl
        have I6 := I5.pinned ff5 (T.obj _ _ st5)
        refine wpAny_mono (hg.run _ s5 σ H5 x u _ I6 r5 (step x H5 y5)) (fun _ s6 z => ?_) fun x s' hx => ee n s₀ x s' hx
        obtain ⟨σ6, H6, I6, q6⟩ := z
        have off : ∀ q ∈ ip ++ pinsAt fp s5.heap, q.1 ≠ S := fun q hq => (List.mem_append.mp hq).elim (fun z => gc.ip q z) fun z => by
          obtain ⟨hb, _⟩ := of_pinsAt z
          obtain ⟨_, _, _, _, _, f5⟩ := ff q.1 hb
          exact fun e => f5 (S, lstObj acc cc) (List.mem_append_right _ List.mem_cons_self) e.symm
        have gl6 : ∀ (kk : Result → Sem PySem.Fin), GC X S (ip ++ pinsAt fp s5.heap) A (.forLoop tg (.ref it) body [] X.env) (.ret kk none (gd false) (lv []) c p [] :: fs) id := fun kk => { gl kk with ip := off }
        have back : ∀ {n' : Nat} {ys' : List V} {s₀' s3 : Shared} {σ3 : L2.St} {H3 : Hp}, n' + ys'.length = sizeLine → GI X S (ip ++ pinsAt fp s5.heap) ys' σ3 H3 s3 → N ys' σ3 H3 → Seg (model X.prog X.w) A R (GY X S) n' s₀' (.forLoop tg (.ref it) body [] X.env) ((model X.prog X.w).den (.forLoop tg (.ref it) body [] X.env))
            (.ret (fun r => ((match r with | .ok f => (.pure f : Sem Flow) | .error e => .raise e).onRaise (cameBack X.env)).wrap K J gd lv) none (gd false) (lv []) c p [] :: fs) s3 := fun {n' ys' s₀' s3 σ3 H3} hn' hs n3 => by
          obtain ⟨acc3, cc3, r3, I3⟩ := hs
          obtain ⟨m', hm, w3⟩ := hN ys' σ3 H3 n3
          have I3' : Inv X (((S, lstObj acc3 cc3) :: ip) ++ pinsAt fp s5.heap) σ3 H3 s3 := I3
          refine ih m' hm (i + 1) n' ys' s₀' s3 σ3 H3 acc3 cc3 hn' w3 r3 I3'.unpinned (T.keep _ _ _ st5 fun b hb o e => (I3'.pin (b, o) (List.mem_append_right _ (List.mem_append_right _ (mem_pinsAt hb e)))).1) fun b hb => ?_
          obtain ⟨o, e, _⟩ := T.obj _ _ st5 b hb
          exact fp_pins (ff b hb) (I3'.pin (b, o) (List.mem_append_right _ (List.mem_append_right _ (mem_pinsAt hb e)))).2.1 rfl
        have low : ∀ {ys' : List V} {σ3 : L2.St} {H3 : Hp} {s3 : Shared}, GI X S (ip ++ pinsAt fp s5.heap) ys' σ3 H3 s3 → GI X S ip ys' σ3 H3 s3 := fun {ys' σ3 H3 s3} hs => by
          obtain ⟨acc3, cc3, r3, I3⟩ := hs
          have I3' : Inv X (((S, lstObj acc3 cc3) :: ip) ++ pinsAt fp s5.heap) σ3 H3 s3 := I3
          exact ⟨acc3, cc3, r3, I3'.unpinned⟩
        refine hb.run A S (ip ++ pinsAt fp s5.heap) R n ys s₀ _ _ _ _ id id s6 σ6 H6 { D with nx := N, ct := N, bk := D.nx } (gl6 _) hn ⟨fun n' ys' s₀' s3 f hn' hs => ?_, fun n' s₀' x s3 hx => ee n' s₀' x s3 hx⟩ ⟨acc, cc, r, I6⟩ q6
        cases f with
        | next => obtain ⟨σ3, H3, I3, n3⟩ := hs; exact seg_again rfl (back hn' I3 n3)
        | cont => obtain ⟨σ3, H3, I3, n3⟩ := hs; exact seg_again rfl (back hn' I3 n3)
        | brk => obtain ⟨σ3, H3, I3, q3⟩ := hs; exact seg_leaf (.ok .next) (k.ok n' ys' s₀' s3 .next hn' ⟨σ3, H3, low I3, q3⟩)
        | ret v => obtain ⟨z, σ3, H3, I3, r3, q3⟩ := hs; exact seg_leaf (.ok (.ret v)) (k.ok n' ys' s₀' s3 (.ret v) hn' ⟨z, σ3, H3, low I3, r3, q3⟩)
  exact loop m0 0 n ys s₀ s2 σ H2 acc cc hn w0 r I2 st2 f2
end
end KG
namespace KG
open PySem PySem.Spec PySem.Calls PyProof.Rows L2
/-- over whole numbers from lo on -/
theorem gfor_range {lo : Int} {n : Nat} {g : TG} {tb : TGn} {D : GEnds} {ys : List V} {σ : L2.St} {H : Hp} (Pv : Nat → List V → L2.St → Hp → Prop) (h0 : Pv 0 ys σ H)
    (each : ∀ i ys σ H, i < n → Pv i ys σ H → g (.int (lo + i)) σ H fun σ2 H2 => tb { D with nx := Pv (i + 1), ct := Pv (i + 1), bk := D.nx } ys σ2 H2) (end_ : ∀ ys σ H, Pv n ys σ H → D.nx ys σ H) :
    ∃ W : Nat → Nat → List V → L2.St → Hp → Prop, (∃ m, W 0 m ys σ H) ∧ ∀ i m ys σ H, W i m ys σ H →
      ((Itr lo n).stop i H ∧ D.nx ys σ H) ∨ ((Itr lo n).go i H ∧ ∃ N : List V → L2.St → Hp → Prop, (∀ ys' σ' H', N ys' σ' H' → ∃ m', m' < m ∧ W (i + 1) m' ys' σ' H') ∧ ∀ x H', (Itr lo n).yld i H x H' → g x σ H' fun σ2 H2 => tb { D with nx := N, ct := N, bk := D.nx } ys σ2 H2) := by
  refine ⟨fun i m ys σ H => (m + i = n) ∧ Pv i ys σ H, ⟨n, rfl, h0⟩, fun i m ys σ H w => ?_⟩
  obtain ⟨e, p⟩ := w
  cases m with
  | zero =>
    have e' : i = n := by omega
    subst e'
    exact .inl ⟨by simp [Itr], end_ _ _ _ p⟩
  | succ m =>
    have lt : i < n := by omega
    refine .inr ⟨lt, Pv (i + 1), fun ys' σ' H' p' => ⟨m, Nat.lt_succ_self m, by omega, p'⟩, fun x H' y => ?_⟩
    obtain ⟨e1, e2⟩ := y
    subst e1
    subst e2
    exact each i ys σ _ lt p
end KG

set_option Elab.async false
set_option linter.all false
set_option maxRecDepth 100000
set_option maxHeartbeats 400000
/-! KN: the steps of blends as functions of words: kept, flipped, moved; what the normal form of each makes. -/
namespace KG
theorem kN_zero {w : Nat} {s : Int} : kN w s 0 = 0 := Nat.zero_and _
theorem sN_ne {w : Nat} {s : Int} {k : Nat} (h : kN w s k ≠ 0) : sN w s k = s := if_neg h
theorem kN_kN {w : Nat} {s : Int} {k : Nat} : kN w s (kN w s k) = kN w s k := by
  unfold kN
  rw [Nat.and_assoc, Nat.and_self]
/-- of kept bits that have a source some stay kept -/
theorem kN_and {w : Nat} {s : Int} {k m : Nat} : kN w (sN w s k) (kN w s k &&& m) = kN w s k &&& m := by
  by_cases h : kN w s k = 0
  · rw [h, Nat.zero_and, kN_zero]
  · rw [sN_ne h]
    unfold kN
    rw [Nat.and_assoc, Nat.and_assoc, Nat.and_comm m, Nat.and_assoc, ← Nat.and_assoc (gN _ _ _) (gN _ _ _), Nat.and_self, Nat.and_comm _ m]
theorem kN_self {w : Nat} {s : Int} {k : Nat} : kN w (sN w s k) (kN w s k) = kN w s k := by
  by_cases h : kN w s k = 0
  · rw [h, kN_zero]
  · rw [sN_ne h, kN_kN]
theorem FN_any {w : Nat} {s : Int} {k f v m : Nat} (h : ∀ j, m.testBit j = true → (kN w s k).testBit j = true) : FN w (sN w s k) m f v = FN w s m f v := by
  by_cases z : kN w s k = 0
  · have : m = 0 := Nat.eq_of_testBit_eq fun j => by
      cases e : m.testBit j with
      | false => rw [Nat.zero_testBit]
      | true => have q := h j e; rw [z, Nat.zero_testBit] at q; cases q
    subst this
    unfold FN
    rw [Nat.and_zero, Nat.and_zero]
  · rw [sN_ne z]
theorem kN_sub_full {w : Nat} {s : Int} {k j : Nat} (h : (kN w s k).testBit j = true) : j < w := by
  rw [kN_bit] at h
  simp only [Bool.and_eq_true, decide_eq_true_eq] at h
  exact h.2.1.1
theorem st_and {w : Nat} {s : Int} {k f n v : Nat} : FN w (sN w s k) (kN w (sN w s k) (kN w s k &&& n)) (f &&& n) v = FN w s (kN w s k) f v &&& n := by
  rw [kN_and, FN_any (fun j h => by rw [Nat.testBit_and, Bool.and_eq_true] at h; exact h.1)]
  unfold FN
  refine Nat.eq_of_testBit_eq fun j => ?_
  simp only [Nat.testBit_xor, Nat.testBit_and]
  cases (gN w s v).testBit j <;> cases (kN w s k).testBit j <;> cases n.testBit j <;> cases f.testBit j <;> rfl
theorem st_or {w : Nat} {s : Int} {k f n v : Nat} : FN w (sN w s k) (kN w (sN w s k) (kN w s k &&& (n ^^^ fullN w))) (f ||| n) v = FN w s (kN w s k) f v ||| n := by
  rw [kN_and, FN_any (fun j h => by rw [Nat.testBit_and, Bool.and_eq_true] at h; exact h.1)]
  unfold FN
  refine Nat.eq_of_testBit_eq fun j => ?_
  simp only [Nat.testBit_xor, Nat.testBit_and, Nat.testBit_or, full_bit]
  cases e : (kN w s k).testBit j with
  | false => cases n.testBit j <;> cases f.testBit j <;> simp
  | true =>
    rw [decide_eq_true (kN_sub_full e)]
    cases (gN w s v).testBit j <;> cases n.testBit j <;> cases f.testBit j <;> rfl
theorem st_xor {w : Nat} {s : Int} {k f n v : Nat} : FN w (sN w s k) (kN w (sN w s k) (kN w s k)) (f ^^^ n) v = FN w s (kN w s k) f v ^^^ n := by
  rw [kN_self, FN_any (fun j h => h)]
  unfold FN
  rw [Nat.xor_assoc]
theorem st_begin {w : Nat} {s : Int} {k f v : Nat} (hv : v < 2 ^ w) : FN w s (kN w s k) f v = (gN w s v &&& k) ^^^ f := by
  unfold FN
  congr 1
  refine Nat.eq_of_testBit_eq fun j => ?_
  rw [Nat.testBit_and, Nat.testBit_and, kN_bit, gN_bit hv]
  cases h1 : decide (j < w) <;> cases h2 : decide (s ≤ (j : Int)) <;> cases h3 : k.testBit j <;> simp
  intro h
  have : ((j : Int) - s).toNat < w := by
    by_cases q : ((j : Int) - s).toNat < w
    · exact q
    · rw [Nat.testBit_lt_two_pow (Nat.lt_of_lt_of_le hv (Nat.pow_le_pow_right (by decide) (by omega)))] at h
      cases h
  exact this
theorem gN_and {w : Nat} {s : Int} {a b : Nat} (ha : a < 2 ^ w) (hb : b < 2 ^ w) : gN w s (a &&& b) = gN w s a &&& gN w s b := by
  refine Nat.eq_of_testBit_eq fun j => ?_
  rw [Nat.testBit_and, gN_bit (Nat.and_lt_two_pow _ hb), gN_bit ha, gN_bit hb, Nat.testBit_and]
  cases decide (j < w) <;> cases decide (s ≤ (j : Int)) <;> simp
theorem gN_keep {w : Nat} {t : Int} {x : Nat} (hx : x < 2 ^ w) : gN w (sN w t (fullN w)) x &&& kN w t (fullN w) = gN w t x := by
  have e : gN w t x &&& kN w t (fullN w) = gN w t x := by
    have q := st_begin (w := w) (s := t) (k := fullN w) (f := 0) hx
    unfold FN at q
    rw [Nat.xor_zero, Nat.xor_zero] at q
    rw [q]
    refine Nat.eq_of_testBit_eq fun j => ?_
    rw [Nat.testBit_and, full_bit, gN_bit hx]
    cases decide (j < w) <;> simp
  by_cases z : kN w t (fullN w) = 0
  · rw [z, Nat.and_zero] at e
    rw [z, Nat.and_zero, e]
  · rw [sN_ne z, e]
/-- the shift of what is moved on -/
def mvS (w : Nat) (s t : Int) (k : Nat) : Int := if gN w t (kN w s k) = 0 then 0 else sN w s k + sN w t (fullN w)
theorem mv_some {w : Nat} {s t : Int} {k : Nat} (hk : k < 2 ^ w) (z : gN w t (kN w s k) ≠ 0) : ∃ j, (gN w t (kN w s k)).testBit j = true := by
  by_cases q : ∃ j, (gN w t (kN w s k)).testBit j = true
  · exact q
  · exact absurd (Nat.eq_of_testBit_eq fun j => by
      rw [Nat.zero_testBit]
      exact Bool.eq_false_iff.mpr fun t => q ⟨j, t⟩) z
theorem kN_lt' {w : Nat} {s : Int} {k : Nat} (hk : k < 2 ^ w) : kN w s k < 2 ^ w := Nat.lt_of_le_of_lt Nat.and_le_left hk
theorem mv_parts {w : Nat} {s t : Int} {k : Nat} (hk : k < 2 ^ w) (z : gN w t (kN w s k) ≠ 0) : mvS w s t k = s + t ∧ -(w : Int) ≤ s + t ∧ s + t ≤ w := by
  obtain ⟨j, hj⟩ := mv_some hk z
  rw [gN_bit (kN_lt' hk)] at hj
  simp only [Bool.and_eq_true, decide_eq_true_eq] at hj
  obtain ⟨⟨h1, h2⟩, h3⟩ := hj
  have h3' := h3
  rw [kN_bit] at h3
  simp only [Bool.and_eq_true, decide_eq_true_eq] at h3
  obtain ⟨_, ⟨h4, h5⟩, h6⟩ := h3
  have k1 : kN w s k ≠ 0 := fun e => by rw [e, Nat.zero_testBit] at h3'; cases h3'
  have k2 : kN w t (fullN w) ≠ 0 := fun e => by
    have : (kN w t (fullN w)).testBit j = true := by
      rw [kN_bit, full_bit, decide_eq_true h1, decide_eq_true h2, decide_eq_true h4]
      rfl
    rw [e, Nat.zero_testBit] at this
    cases this
  refine ⟨?_, by omega, by omega⟩
  unfold mvS
  rw [if_neg z, sN_ne k1, sN_ne k2]
theorem mv_range {w : Nat} {s t : Int} {k : Nat} (hk : k < 2 ^ w) : -(w : Int) ≤ mvS w s t k ∧ mvS w s t k ≤ w := by
  by_cases z : gN w t (kN w s k) = 0
  · unfold mvS
    rw [if_pos z]
    omega
  · obtain ⟨a, b, c⟩ := mv_parts hk z
    rw [a]
    exact ⟨b, c⟩
theorem st_mv {w : Nat} {s t : Int} {k f v : Nat} (hk : k < 2 ^ w) (hf : f < 2 ^ w) (hv : v < 2 ^ w) :
    FN w (mvS w s t k) (kN w (mvS w s t k) (gN w t (kN w s k))) (gN w t f) v = gN w t (FN w s (kN w s k) f v) := by
  unfold FN
  rw [gN_xor (Nat.and_lt_two_pow _ (kN_lt' hk)) hf, gN_and (gN_lt hv) (kN_lt' hk)]
  congr 1
  by_cases z : gN w t (kN w s k) = 0
  · rw [z, kN_zero, Nat.and_zero, Nat.and_zero]
  · obtain ⟨a, b, c⟩ := mv_parts hk z
    rw [a]
    refine Nat.eq_of_testBit_eq fun j => ?_
    rw [Nat.testBit_and, Nat.testBit_and, kN_bit, gN_bit hv, gN_bit (gN_lt hv), gN_bit (kN_lt' hk), kN_bit]
    by_cases h1 : j < w
    · by_cases h2 : t ≤ (j : Int)
      · by_cases h3 : ((j : Int) - t).toNat < w
        · have e1 : ((((j : Int) - t).toNat : Nat) : Int) = (j : Int) - t := by omega
          rw [gN_bit hv, e1]
          by_cases h4 : s ≤ (j : Int) - t
          · have e2 : (j : Int) - (s + t) = (j : Int) - t - s := by omega
            rw [decide_eq_true h1, decide_eq_true h2, decide_eq_true h3, decide_eq_true h4, e2, decide_eq_true (show s + t ≤ (j : Int) by omega)]
            cases k.testBit ((j : Int) - t).toNat <;> cases v.testBit ((j : Int) - t - s).toNat <;> cases decide (((j : Int) - t - s).toNat < w) <;> rfl
          · rw [decide_eq_false h4, decide_eq_false (show ¬ s + t ≤ (j : Int) by omega)]
            simp
        · rw [decide_eq_false h3]
          simp
      · rw [decide_eq_false h2]
        simp
    · rw [decide_eq_false h1]
      simp
/-- the sources, one after another, as the results at the single bits show them -/
theorem col_bit {w : Nat} {s : Int} {k f i j : Nat} (hi : i < w) : (FN w s (kN w s k) f (2 ^ i) ^^^ f).testBit j = ((kN w s k).testBit j && decide ((j : Int) = i + s)) := by
  rw [Nat.testBit_xor, single_bit hi]
  cases h : (kN w s k).testBit j with
  | false => simp
  | true =>
    rw [kN_bit] at h
    simp only [Bool.and_eq_true, decide_eq_true_eq] at h
    have e : decide (((j : Int) - s).toNat = i) = decide ((j : Int) = i + s) := decide_eq_decide.mpr (by omega)
    rw [e]
    cases decide ((j : Int) = i + s) <;> cases f.testBit j <;> rfl
end KG

set_option Elab.async false
set_option linter.all false
set_option maxRecDepth 100000
set_option maxHeartbeats 400000
namespace KG
/-! KN2: the normal form, found column by column. -/
/-- the pairs of the first columns -/
def prs (w : Nat) (s : Int) (k i : Nat) : List (Int × Int) := ((List.range w).filter fun j : Nat => k.testBit j && decide ((j : Int) - s < i)).map fun j : Nat => ((j : Int), (j : Int) - s)
/-- a column has a bit -/
def hit (n : Nat) (s : Int) (k i : Nat) : Bool := decide (0 ≤ (i : Int) + s) && decide ((i : Int) + s < n) && k.testBit ((i : Int) + s).toNat
theorem prs_zero {w : Nat} {s : Int} {k : Nat} (h : ∀ j, k.testBit j = true → s ≤ (j : Int)) : prs w s k 0 = [] := by
  unfold prs
  rw [List.map_eq_nil_iff, List.filter_eq_nil_iff]
  intro j _ q
  simp only [Bool.and_eq_true, decide_eq_true_eq] at q
  have := h j q.1
  omega
theorem flt_succ (s : Int) (k i : Nat) : ∀ n, ((List.range n).filter fun j : Nat => k.testBit j && decide ((j : Int) - s < ((i + 1 : Nat) : Int))) =
    ((List.range n).filter fun j : Nat => k.testBit j && decide ((j : Int) - s < i)) ++ (if hit n s k i = true then [((i : Int) + s).toNat] else [])
  | 0 => by
    have : hit 0 s k i = false := by
      unfold hit
      cases h : decide (0 ≤ (i : Int) + s) with
      | false => rfl
      | true =>
        rw [decide_eq_true_eq] at h
        rw [decide_eq_false (show ¬ (i : Int) + s < ((0 : Nat) : Int) by omega)]
        rfl
    rw [this]
    rfl
  | n + 1 => by
    rw [List.range_succ, List.filter_append, List.filter_append, flt_succ s k i n]
    have one : ∀ p : Nat → Bool, [n].filter p = if p n = true then [n] else [] := fun p => by
      rw [List.filter_cons]
      rfl
    rw [one, one]
    by_cases h1 : (n : Int) - s < i
    · have e1 : hit n s k i = hit (n + 1) s k i := by
        unfold hit
        by_cases h0 : 0 ≤ (i : Int) + s
        · rw [decide_eq_true h0, decide_eq_false (show ¬ (i : Int) + s < (n : Int) by omega), decide_eq_false (show ¬ (i : Int) + s < ((n + 1 : Nat) : Int) by omega)]
        · rw [decide_eq_false h0]
          rfl
      have e2 : hit (n + 1) s k i = false := by
        unfold hit
        rw [decide_eq_false (show ¬ (i : Int) + s < ((n + 1 : Nat) : Int) by omega), Bool.and_false, Bool.false_and]
      rw [e1, e2, decide_eq_true h1, decide_eq_true (show (n : Int) - s < ((i + 1 : Nat) : Int) by omega)]
      simp
    · rw [decide_eq_false h1, Bool.and_false]
      by_cases h2 : (n : Int) - s = i
      · have e2 : hit n s k i = false := by
          unfold hit
          rw [decide_eq_false (show ¬ (i : Int) + s < (n : Int) by omega), Bool.and_false, Bool.false_and]
        have e3 : hit (n + 1) s k i = k.testBit n := by
          unfold hit
          rw [decide_eq_true (show 0 ≤ (i : Int) + s by omega), decide_eq_true (show (i : Int) + s < ((n + 1 : Nat) : Int) by omega), show ((i : Int) + s).toNat = n by omega]
          rfl
        rw [e2, e3, decide_eq_true (show (n : Int) - s < ((i + 1 : Nat) : Int) by omega), Bool.and_true, show ((i : Int) + s).toNat = n by omega]
      · have e2 : hit n s k i = hit (n + 1) s k i := by
          unfold hit
          rw [decide_eq_true (show (i : Int) + s < (n : Int) by omega), decide_eq_true (show (i : Int) + s < ((n + 1 : Nat) : Int) by omega)]
        rw [e2, decide_eq_false (show ¬ (n : Int) - s < ((i + 1 : Nat) : Int) by omega), Bool.and_false]
        simp
theorem prs_succ {w : Nat} {s : Int} {k i : Nat} : prs w s k (i + 1) = prs w s k i ++ (if hit w s k i = true then [((i : Int) + s, (i : Int))] else []) := by
  unfold prs
  rw [flt_succ, List.map_append]
  congr 1
  cases h : hit w s k i with
  | false => rfl
  | true =>
    unfold hit at h
    simp only [Bool.and_eq_true, decide_eq_true_eq] at h
    simp only [if_true, List.map_cons, List.map_nil]
    rw [show ((((i : Int) + s).toNat : Nat) : Int) = (i : Int) + s by omega, show (i : Int) + s - s = (i : Int) by omega]
theorem prs_nil {w : Nat} {s : Int} {k i : Nat} : prs w s k i = [] ↔ ∀ j, j < w → (j : Int) - s < i → k.testBit j = false := by
  unfold prs
  rw [List.map_eq_nil_iff, List.filter_eq_nil_iff]
  constructor
  · intro h j hj hi
    have := h j (List.mem_range.mpr hj)
    cases e : k.testBit j with
    | false => rfl
    | true =>
      rw [e, decide_eq_true hi] at this
      exact absurd rfl this
  · intro h j hj q
    simp only [Bool.and_eq_true, decide_eq_true_eq] at q
    rw [h j (List.mem_range.mp hj) q.2] at q
    cases q.1
/-- a column's places -/
def plc (n : Nat) (s : Int) (k i : Nat) : List Int := if hit n s k i = true then [(i : Int) + s] else []
theorem plc_succ {n w : Nat} {s : Int} {k f i : Nat} (hi : i < w) : plc (n + 1) s (kN w s k) i = plc n s (kN w s k) i ++ (if (FN w s (kN w s k) f (2 ^ i) ^^^ f).testBit n = true then [(n : Int)] else []) := by
  rw [col_bit hi]
  unfold plc hit
  by_cases h : (n : Int) = i + s
  · rw [decide_eq_true (show 0 ≤ (i : Int) + s by omega), decide_eq_false (show ¬ (i : Int) + s < (n : Int) by omega), decide_eq_true (show (i : Int) + s < ((n + 1 : Nat) : Int) by omega), decide_eq_true h, show ((i : Int) + s).toNat = n by omega, ← h]
    simp
  · rw [decide_eq_false h, Bool.and_false]
    by_cases h2 : (i : Int) + s < n
    · rw [decide_eq_true h2, decide_eq_true (show (i : Int) + s < ((n + 1 : Nat) : Int) by omega)]
      simp
    · rw [decide_eq_false h2, decide_eq_false (show ¬ (i : Int) + s < ((n + 1 : Nat) : Int) by omega)]
      simp
theorem plc_zero {s : Int} {k i : Nat} : plc 0 s k i = [] := by
  unfold plc hit
  by_cases h : 0 ≤ (i : Int) + s
  · rw [decide_eq_false (show ¬ (i : Int) + s < ((0 : Nat) : Int) by omega), Bool.and_false]
    rfl
  · rw [decide_eq_false h]
    rfl
/-- what is kept so far -/
def KpOk (w : Nat) (s : Int) (k i c : Nat) : Prop := ∀ j, c.testBit j = ((kN w s k).testBit j && decide ((j : Int) - s < i))
theorem kN_ge {w : Nat} {s : Int} {k j : Nat} (h : (kN w s k).testBit j = true) : s ≤ (j : Int) ∧ (j : Int) - s < w ∧ j < w := by
  rw [kN_bit] at h
  simp only [Bool.and_eq_true, decide_eq_true_eq] at h
  obtain ⟨_, ⟨h1, h2⟩, h3⟩ := h
  omega
theorem kp_zero {w : Nat} {s : Int} {k : Nat} : KpOk w s k 0 0 := fun j => by
  rw [Nat.zero_testBit]
  cases e : (kN w s k).testBit j with
  | false => rfl
  | true =>
    have := kN_ge e
    rw [decide_eq_false (show ¬ (j : Int) - s < ((0 : Nat) : Int) by omega)]
    rfl
theorem kp_on {w : Nat} {s : Int} {k f i c : Nat} (hi : i < w) (h : KpOk w s k i c) : KpOk w s k (i + 1) (c ||| (FN w s (kN w s k) f (2 ^ i) ^^^ f)) := fun j => by
  rw [Nat.testBit_or, h j, col_bit hi]
  cases (kN w s k).testBit j with
  | false => rfl
  | true =>
    by_cases h1 : (j : Int) - s < i
    · rw [decide_eq_true h1, decide_eq_true (show (j : Int) - s < ((i + 1 : Nat) : Int) by omega)]
      rfl
    · rw [decide_eq_false h1]
      have e : decide ((j : Int) = i + s) = decide ((j : Int) - s < ((i + 1 : Nat) : Int)) := decide_eq_decide.mpr (by omega)
      rw [e]
      cases decide ((j : Int) - s < ((i + 1 : Nat) : Int)) <;> rfl
theorem kp_off {w : Nat} {s : Int} {k i c : Nat} (hh : hit w s (kN w s k) i = false) (h : KpOk w s k i c) : KpOk w s k (i + 1) c := fun j => by
  rw [h j]
  cases e : (kN w s k).testBit j with
  | false => rfl
  | true =>
    have e0 := e
    obtain ⟨a, b, d⟩ := kN_ge e0
    have e1 : decide ((j : Int) - s < i) = decide ((j : Int) - s < ((i + 1 : Nat) : Int)) := decide_eq_decide.mpr ⟨fun q => by omega, fun q => by
      by_cases z : (j : Int) - s = i
      · unfold hit at hh
        rw [decide_eq_true (show 0 ≤ (i : Int) + s by omega), decide_eq_true (show (i : Int) + s < (w : Int) by omega), show ((i : Int) + s).toNat = j by omega, e] at hh
        cases hh
      · omega⟩
    rw [e1]
theorem kp_end {w : Nat} {s : Int} {k c : Nat} (h : KpOk w s k w c) : c = kN w s k := Nat.eq_of_testBit_eq fun j => by
  rw [h j]
  cases e : (kN w s k).testBit j with
  | false => rfl
  | true =>
    rw [decide_eq_true (kN_ge e).2.1]
    rfl
/-- the shift so far -/
def shO (w : Nat) (s : Int) (k i : Nat) : Int := if prs w s (kN w s k) i = [] then 0 else s
theorem sh_end {w : Nat} {s : Int} {k : Nat} : shO w s k w = sN w s k := by
  unfold shO sN
  by_cases z : kN w s k = 0
  · rw [if_pos z, if_pos]
    rw [prs_nil]
    intro j _ _
    rw [z, Nat.zero_testBit]
  · rw [if_neg z, if_neg]
    intro q
    rw [prs_nil] at q
    refine z (Nat.eq_of_testBit_eq fun j => ?_)
    rw [Nat.zero_testBit]
    cases e : (kN w s k).testBit j with
    | false => rfl
    | true =>
      obtain ⟨_, b, d⟩ := kN_ge e
      rw [← e]
      exact q j d b
theorem sh_on {w : Nat} {s : Int} {k i : Nat} (h : hit w s (kN w s k) i = true) : shO w s k (i + 1) = s := by
  unfold shO
  rw [prs_succ, h]
  simp
theorem sh_off {w : Nat} {s : Int} {k i : Nat} (h : hit w s (kN w s k) i = false) : shO w s k (i + 1) = shO w s k i := by
  unfold shO
  rw [prs_succ, h]
  simp
theorem prs_end {w : Nat} {s : Int} {k : Nat} : prs w s (kN w s k) w = ((List.range w).filter fun j : Nat => (kN w s k).testBit j).map fun j : Nat => ((j : Int), (j : Int) - sN w s k) := by
  unfold prs
  by_cases z : kN w s k = 0
  · have e : ∀ p : Nat → Bool, (∀ j, p j = false) → (List.range w).filter p = [] := fun p h => List.filter_eq_nil_iff.mpr fun j _ q => by rw [h j] at q; cases q
    rw [e _ fun j => by rw [z, Nat.zero_testBit]; rfl, e _ fun j => by rw [z, Nat.zero_testBit]]
    rfl
  · rw [sN_ne z]
    congr 1
    refine List.filter_congr fun j hj => ?_
    cases e : (kN w s k).testBit j with
    | false => rfl
    | true => rw [decide_eq_true (kN_ge e).2.1]; rfl
theorem prs_up {w : Nat} {s : Int} {k i : Nat} : (prs w s k i).Pairwise fun p q => p.1 < q.1 := by
  unfold prs
  rw [List.pairwise_map]
  refine List.Pairwise.filter _ ?_
  exact List.pairwise_lt_range.imp fun h => by omega
theorem prs_mem {w : Nat} {s : Int} {k i : Nat} {p : Int × Int} (h : p ∈ prs w s k i) : 0 ≤ p.1 ∧ p.1 < w ∧ p.2 = p.1 - s := by
  unfold prs at h
  obtain ⟨j, hj, rfl⟩ := List.mem_map.mp h
  have := List.mem_range.mp (List.mem_filter.mp hj).1
  refine ⟨?_, ?_, rfl⟩
  · show 0 ≤ (j : Int)
    omega
  · show (j : Int) < w
    omega
theorem prs_len {w : Nat} {s : Int} {k i : Nat} : (prs w s k i).length ≤ w := by
  unfold prs
  rw [List.length_map]
  exact Nat.le_trans (List.length_filter_le _ _) (by rw [List.length_range]; exact Nat.le_refl _)
end KG

set_option Elab.async false
set_option linter.all false
set_option maxRecDepth 100000
set_option maxHeartbeats 4000000
namespace Law
open PySem PySem.Spec PySem.Calls PyProof.Rows L2 KG LamX
local macro_rules | `(tactic| walk_at "1") => `(tactic| first
  | (with_reducible refine w_var rfl ?_) | (with_reducible refine w_c ?_) | (with_reducible refine w_seq ?_) | (with_reducible refine w_asg ?_) | (with_reducible refine w_gname ?_) | (with_reducible refine w_op ?_) | (with_reducible refine w_un ?_)
  | (with_reducible refine w_add ?_) | (with_reducible refine w_sub ?_) | ((with_reducible refine' w_mod ?mo ?_); (case mo => first | assumption | decide | omega)) | (with_reducible refine w_and ?_) | (with_reducible refine w_or ?_) | (with_reducible refine w_xor ?_)
  | (with_reducible refine w_gt ?_) | (with_reducible refine w_lt ?_) | (with_reducible refine w_ge ?_) | (with_reducible refine w_le ?_) | ((with_reducible refine' w_eq ?sc ?_); (case sc => rfl)) | ((with_reducible refine' w_ne ?sc ?_); (case sc => rfl))
  | (with_reducible refine w_ret ?_) | (with_reducible refine w_next ?_) | (with_reducible refine w_ifs ?_) | (with_reducible refine w_ifx ?_) | (with_reducible refine w_test ?_) | (with_reducible refine w_tB ?_) | (with_reducible refine w_bl ?_)
  | ((with_reducible refine' w_ixL ?ixh ?ixa ?_); (case ixh => first | exact SqL.of (by assumption)); (case ixa => first | rfl | skip)) | ((with_reducible refine' w_ixT ?ixh ?ixa ?_); (case ixh => first | exact SqT.of (by assumption)); (case ixa => first | rfl | skip))
  | ((with_reducible refine' w_fld ?_)) | ((with_reducible refine' fld ?fh ?fc ?fn ?fl ?_); (case fh => assumption); (case fc => assumption); (case fn => assumption); (case fl => rfl)) | (with_reducible refine w_sfld ?_)
  | (with_reducible refine Or.inl ⟨_, rfl, ?_⟩) | (with_reducible refine w_gsub ?_) | (with_reducible refine w_andV ?_) | (with_reducible refine w_orV ?_)
  | (with_reducible refine w_nil ?_) | (with_reducible refine w_cons ?_) | (with_reducible refine w_tup ?_) | (with_reducible refine w_lst ?_) | (with_reducible refine w_and2 ?_) | (with_reducible refine w_or2 ?_) | (with_reducible refine w_not ?_) | (with_reducible refine w_cb ?_) | (with_reducible refine w_call ?_) | (with_reducible refine w_par ?_) | (with_reducible refine w_pnil ?_) | (with_reducible refine w_pcons ?_) | (with_reducible refine w_dput ?_) | (with_reducible refine w_dget ?_) | (with_reducible refine w_for ?_) | (with_reducible refine w_itup ?_) | (with_reducible refine w_ilist ?_) | (with_reducible refine w_irng ?_) | (with_reducible refine w_meth ?_) | (with_reducible refine w_make ?_) | (with_reducible refine w_makeK ?_) | (with_reducible refine w_methK ?_) | ((with_reducible refine' mth ?mh ?ml ?_); (case mh => assumption); (case ml => rfl)) | (with_reducible refine w_drop ?_))
local macro_rules | `(tactic| walk_at "go") => `(tactic| ((repeat (walk_at "1")); try dsimp only))
local macro_rules | `(tactic| walk_at "1") => `(tactic| first
  | (with_reducible refine w_notV ?_) | (with_reducible refine w_callK ?_) | (with_reducible refine w_lc ?_) | (with_reducible refine w_chain ?_) | (with_reducible refine w_neg ?_) | ((with_reducible refine' w_shr ?mo ?_); (case mo => first | assumption | omega)))
def top (i : Nat) : Stmt := PySem.Challenge.pw_keptbits_k02_blends_by_operations.main.body.getD i (.Pass ⟨0, 0, 0, 0⟩)
abbrev s_is_int : Stmt := top 7
theorem sc_is_int : FnScope ["value"] ["value"] (defScope s_is_int) := ⟨rfl, rfl, rfl, by decide +kernel, rfl, by decide +kernel, by decide +kernel⟩
theorem bd_is_int : BindOk "is_int" "is_int" s_is_int ["value"] := fun _ _ _ _ _ _ us hl => match us, hl with | [_], _ => rfl
abbrev s_is_width : Stmt := top 8
theorem sc_is_width : FnScope ["value"] ["value"] (defScope s_is_width) := ⟨rfl, rfl, rfl, by decide +kernel, rfl, by decide +kernel, by decide +kernel⟩
theorem bd_is_width : BindOk "is_width" "is_width" s_is_width ["value"] := fun _ _ _ _ _ _ us hl => match us, hl with | [_], _ => rfl
abbrev s_full_word : Stmt := top 9
theorem sc_full_word : FnScope ["size"] ["size"] (defScope s_full_word) := ⟨rfl, rfl, rfl, by decide +kernel, rfl, by decide +kernel, by decide +kernel⟩
theorem bd_full_word : BindOk "full_word" "full_word" s_full_word ["size"] := fun _ _ _ _ _ _ us hl => match us, hl with | [_], _ => rfl
abbrev s_is_word : Stmt := top 10
theorem sc_is_word : FnScope ["value", "size"] ["value", "size"] (defScope s_is_word) := ⟨rfl, rfl, rfl, by decide +kernel, rfl, by decide +kernel, by decide +kernel⟩
theorem bd_is_word : BindOk "is_word" "is_word" s_is_word ["value", "size"] := fun _ _ _ _ _ _ us hl => match us, hl with | [_, _], _ => rfl
abbrev s_check_word : Stmt := top 11
theorem sc_check_word : FnScope ["value", "size"] ["value", "size"] (defScope s_check_word) := ⟨rfl, rfl, rfl, by decide +kernel, rfl, by decide +kernel, by decide +kernel⟩
theorem bd_check_word : BindOk "check_word" "check_word" s_check_word ["value", "size"] := fun _ _ _ _ _ _ us hl => match us, hl with | [_, _], _ => rfl
abbrev s_shifted : Stmt := top 13
theorem sc_shifted : FnScope ["word", "shift", "width"] ["word", "shift", "width"] (defScope s_shifted) := ⟨rfl, rfl, rfl, by decide +kernel, rfl, by decide +kernel, by decide +kernel⟩
theorem bd_shifted : BindOk "shifted" "shifted" s_shifted ["word", "shift", "width"] := fun _ _ _ _ _ _ us hl => match us, hl with | [_, _, _], _ => rfl
abbrev s_check_shift : Stmt := top 14
theorem sc_check_shift : FnScope ["value", "least", "most"] ["value", "least", "most"] (defScope s_check_shift) := ⟨rfl, rfl, rfl, by decide +kernel, rfl, by decide +kernel, by decide +kernel⟩
theorem bd_check_shift : BindOk "check_shift" "check_shift" s_check_shift ["value", "least", "most"] := fun _ _ _ _ _ _ us hl => match us, hl with | [_, _, _], _ => rfl
abbrev s_Blend___init__ : Stmt := inClass (top 15) 0
theorem sc_Blend___init__ : FnScope ["self", "width", "shift", "keep", "flip", "full", "kept"] ["self", "width", "shift", "keep", "flip"] (defScope s_Blend___init__) := ⟨rfl, rfl, rfl, by decide +kernel, rfl, by decide +kernel, by decide +kernel⟩
abbrev s_Blend_constant : Stmt := inClass (top 15) 1
theorem sc_Blend_constant : FnScope ["cls", "width", "value"] ["cls", "width", "value"] (defScope s_Blend_constant) := ⟨rfl, rfl, rfl, by decide +kernel, rfl, by decide +kernel, by decide +kernel⟩
theorem bd_Blend_constant : BindOk "constant" "Blend.constant" s_Blend_constant ["cls", "width", "value"] := fun _ _ _ _ _ _ us hl => match us, hl with | [_, _, _], _ => rfl
abbrev s_Blend_is_constant : Stmt := inClass (top 15) 2
theorem sc_Blend_is_constant : FnScope ["self"] ["self"] (defScope s_Blend_is_constant) := ⟨rfl, rfl, rfl, by decide +kernel, rfl, by decide +kernel, by decide +kernel⟩
theorem bd_Blend_is_constant : BindOk "is_constant" "Blend.is_constant" s_Blend_is_constant ["self"] := fun _ _ _ _ _ _ us hl => match us, hl with | [_], _ => rfl
abbrev s_Blend___call__ : Stmt := inClass (top 15) 3
theorem sc_Blend___call__ : FnScope ["self", "value"] ["self", "value"] (defScope s_Blend___call__) := ⟨rfl, rfl, rfl, by decide +kernel, rfl, by decide +kernel, by decide +kernel⟩
theorem bd_Blend___call__ : BindOk "__call__" "Blend.__call__" s_Blend___call__ ["self", "value"] := fun _ _ _ _ _ _ us hl => match us, hl with | [_, _], _ => rfl
abbrev s_Blend___and__ : Stmt := inClass (top 15) 4
theorem sc_Blend___and__ : FnScope ["self", "other"] ["self", "other"] (defScope s_Blend___and__) := ⟨rfl, rfl, rfl, by decide +kernel, rfl, by decide +kernel, by decide +kernel⟩
theorem bd_Blend___and__ : BindOk "__and__" "Blend.__and__" s_Blend___and__ ["self", "other"] := fun _ _ _ _ _ _ us hl => match us, hl with | [_, _], _ => rfl
abbrev s_Blend___rand__ : Stmt := inClass (top 15) 5
theorem sc_Blend___rand__ : FnScope ["self", "other"] ["self", "other"] (defScope s_Blend___rand__) := ⟨rfl, rfl, rfl, by decide +kernel, rfl, by decide +kernel, by decide +kernel⟩
theorem bd_Blend___rand__ : BindOk "__rand__" "Blend.__rand__" s_Blend___rand__ ["self", "other"] := fun _ _ _ _ _ _ us hl => match us, hl with | [_, _], _ => rfl
abbrev s_Blend___or__ : Stmt := inClass (top 15) 6
theorem sc_Blend___or__ : FnScope ["self", "other", "zeros"] ["self", "other"] (defScope s_Blend___or__) := ⟨rfl, rfl, rfl, by decide +kernel, rfl, by decide +kernel, by decide +kernel⟩
theorem bd_Blend___or__ : BindOk "__or__" "Blend.__or__" s_Blend___or__ ["self", "other"] := fun _ _ _ _ _ _ us hl => match us, hl with | [_, _], _ => rfl
abbrev s_Blend___ror__ : Stmt := inClass (top 15) 7
theorem sc_Blend___ror__ : FnScope ["self", "other"] ["self", "other"] (defScope s_Blend___ror__) := ⟨rfl, rfl, rfl, by decide +kernel, rfl, by decide +kernel, by decide +kernel⟩
theorem bd_Blend___ror__ : BindOk "__ror__" "Blend.__ror__" s_Blend___ror__ ["self", "other"] := fun _ _ _ _ _ _ us hl => match us, hl with | [_, _], _ => rfl
abbrev s_Blend___xor__ : Stmt := inClass (top 15) 8
theorem sc_Blend___xor__ : FnScope ["self", "other"] ["self", "other"] (defScope s_Blend___xor__) := ⟨rfl, rfl, rfl, by decide +kernel, rfl, by decide +kernel, by decide +kernel⟩
theorem bd_Blend___xor__ : BindOk "__xor__" "Blend.__xor__" s_Blend___xor__ ["self", "other"] := fun _ _ _ _ _ _ us hl => match us, hl with | [_, _], _ => rfl
abbrev s_Blend___rxor__ : Stmt := inClass (top 15) 9
theorem sc_Blend___rxor__ : FnScope ["self", "other"] ["self", "other"] (defScope s_Blend___rxor__) := ⟨rfl, rfl, rfl, by decide +kernel, rfl, by decide +kernel, by decide +kernel⟩
theorem bd_Blend___rxor__ : BindOk "__rxor__" "Blend.__rxor__" s_Blend___rxor__ ["self", "other"] := fun _ _ _ _ _ _ us hl => match us, hl with | [_, _], _ => rfl
abbrev s_Blend___invert__ : Stmt := inClass (top 15) 10
theorem sc_Blend___invert__ : FnScope ["self"] ["self"] (defScope s_Blend___invert__) := ⟨rfl, rfl, rfl, by decide +kernel, rfl, by decide +kernel, by decide +kernel⟩
theorem bd_Blend___invert__ : BindOk "__invert__" "Blend.__invert__" s_Blend___invert__ ["self"] := fun _ _ _ _ _ _ us hl => match us, hl with | [_], _ => rfl
abbrev s_Blend___lshift__ : Stmt := inClass (top 15) 11
theorem sc_Blend___lshift__ : FnScope ["self", "other"] ["self", "other"] (defScope s_Blend___lshift__) := ⟨rfl, rfl, rfl, by decide +kernel, rfl, by decide +kernel, by decide +kernel⟩
theorem bd_Blend___lshift__ : BindOk "__lshift__" "Blend.__lshift__" s_Blend___lshift__ ["self", "other"] := fun _ _ _ _ _ _ us hl => match us, hl with | [_, _], _ => rfl
abbrev s_Blend___rshift__ : Stmt := inClass (top 15) 12
theorem sc_Blend___rshift__ : FnScope ["self", "other"] ["self", "other"] (defScope s_Blend___rshift__) := ⟨rfl, rfl, rfl, by decide +kernel, rfl, by decide +kernel, by decide +kernel⟩
theorem bd_Blend___rshift__ : BindOk "__rshift__" "Blend.__rshift__" s_Blend___rshift__ ["self", "other"] := fun _ _ _ _ _ _ us hl => match us, hl with | [_, _], _ => rfl
abbrev s_Blend_then : Stmt := inClass (top 15) 13
theorem sc_Blend_then : FnScope ["self", "c", "keep", "flip", "shift"] ["self", "c"] (defScope s_Blend_then) := ⟨rfl, rfl, rfl, by decide +kernel, rfl, by decide +kernel, by decide +kernel⟩
theorem bd_Blend_then : BindOk "then" "Blend.then" s_Blend_then ["self", "c"] := fun _ _ _ _ _ _ us hl => match us, hl with | [_, _], _ => rfl
abbrev s_Blend___repr__ : Stmt := inClass (top 15) 16
theorem sc_Blend___repr__ : FnScope ["self"] ["self"] (defScope s_Blend___repr__) := ⟨rfl, rfl, rfl, by decide +kernel, rfl, by decide +kernel, by decide +kernel⟩
theorem bd_Blend___repr__ : BindOk "__repr__" "Blend.__repr__" s_Blend___repr__ ["self"] := fun _ _ _ _ _ _ us hl => match us, hl with | [_], _ => rfl
abbrev s__law_pen : Stmt := top 17
theorem sc__law_pen : FnScope ["_law_script"] ["_law_script"] (defScope s__law_pen) := ⟨rfl, rfl, rfl, by decide +kernel, rfl, by decide +kernel, by decide +kernel⟩
theorem bd__law_pen : BindOk "_law_pen" "_law_pen" s__law_pen ["_law_script"] := fun _ _ _ _ _ _ us hl => match us, hl with | [_], _ => rfl
abbrev s__law_draw : Stmt := top 18
theorem sc__law_draw : FnScope ["_law_pen_here", "_law_many", "_law_digit", "_law_at", "_law_cell", "_law_great", "_law_mixed"] ["_law_pen_here", "_law_many"] (defScope s__law_draw) := ⟨rfl, rfl, rfl, by decide +kernel, rfl, by decide +kernel, by decide +kernel⟩
theorem bd__law_draw : BindOk "_law_draw" "_law_draw" s__law_draw ["_law_pen_here", "_law_many"] := fun _ _ _ _ _ _ us hl => match us, hl with | [_, _], _ => rfl
abbrev s__law_word : Stmt := top 19
theorem sc__law_word : FnScope ["_law_pen_here", "_law_width", "_law_top_here", "_law_any_word", "_law_turn", "_law_other"] ["_law_pen_here", "_law_width"] (defScope s__law_word) := ⟨rfl, rfl, rfl, by decide +kernel, rfl, by decide +kernel, by decide +kernel⟩
theorem bd__law_word : BindOk "_law_word" "_law_word" s__law_word ["_law_pen_here", "_law_width"] := fun _ _ _ _ _ _ us hl => match us, hl with | [_, _], _ => rfl
abbrev s__law_top : Stmt := top 20
theorem sc__law_top : FnScope ["_law_width"] ["_law_width"] (defScope s__law_top) := ⟨rfl, rfl, rfl, by decide +kernel, rfl, by decide +kernel, by decide +kernel⟩
theorem bd__law_top : BindOk "_law_top" "_law_top" s__law_top ["_law_width"] := fun _ _ _ _ _ _ us hl => match us, hl with | [_], _ => rfl
abbrev s__law_moved : Stmt := top 21
theorem sc__law_moved : FnScope ["_law_width", "_law_value", "_law_step_here"] ["_law_width", "_law_value", "_law_step_here"] (defScope s__law_moved) := ⟨rfl, rfl, rfl, by decide +kernel, rfl, by decide +kernel, by decide +kernel⟩
theorem bd__law_moved : BindOk "_law_moved" "_law_moved" s__law_moved ["_law_width", "_law_value", "_law_step_here"] := fun _ _ _ _ _ _ us hl => match us, hl with | [_, _, _], _ => rfl
abbrev s__law_done : Stmt := top 22
theorem sc__law_done : FnScope ["_law_width", "_law_steps", "_law_value", "_law_word_here", "_law_number", "_law_shift", "_law_keep", "_law_flip"] ["_law_width", "_law_steps", "_law_value"] (defScope s__law_done) := ⟨rfl, rfl, rfl, by decide +kernel, rfl, by decide +kernel, by decide +kernel⟩
theorem bd__law_done : BindOk "_law_done" "_law_done" s__law_done ["_law_width", "_law_steps", "_law_value"] := fun _ _ _ _ _ _ us hl => match us, hl with | [_, _, _], _ => rfl
abbrev s__law_begun : Stmt := top 23
theorem sc__law_begun : FnScope ["_law_pen_here", "_law_width", "_law_pick", "_law_shift", "_law_keep", "_law_flip"] ["_law_pen_here", "_law_width"] (defScope s__law_begun) := ⟨rfl, rfl, rfl, by decide +kernel, rfl, by decide +kernel, by decide +kernel⟩
theorem bd__law_begun : BindOk "_law_begun" "_law_begun" s__law_begun ["_law_pen_here", "_law_width"] := fun _ _ _ _ _ _ us hl => match us, hl with | [_, _], _ => rfl
abbrev s__law_step : Stmt := top 24
theorem sc__law_step : FnScope ["_law_pen_here", "_law_blend", "_law_width", "_law_word_here", "_law_number", "_law_pick"] ["_law_pen_here", "_law_blend"] (defScope s__law_step) := ⟨rfl, rfl, rfl, by decide +kernel, rfl, by decide +kernel, by decide +kernel⟩
theorem bd__law_step : BindOk "_law_step" "_law_step" s__law_step ["_law_pen_here", "_law_blend"] := fun _ _ _ _ _ _ us hl => match us, hl with | [_, _], _ => rfl
abbrev s__law_normal : Stmt := top 25
theorem sc__law_normal : FnScope ["_law_width", "_law_steps", "_law_flip", "_law_keep", "_law_shift", "_law_sources", "_law_source", "_law_column", "_law_places", "_law_place"] ["_law_width", "_law_steps"] (defScope s__law_normal) := ⟨rfl, rfl, rfl, by decide +kernel, rfl, by decide +kernel, by decide +kernel⟩
theorem bd__law_normal : BindOk "_law_normal" "_law_normal" s__law_normal ["_law_width", "_law_steps"] := fun _ _ _ _ _ _ us hl => match us, hl with | [_, _], _ => rfl
abbrev s__law_right : Stmt := top 26
theorem sc__law_right : FnScope ["_law_blend", "_law_width", "_law_steps", "_law_words", "_law_value", "_law_k", "_law_shift", "_law_keep", "_law_flip", "_law_sources", "_law_one"] ["_law_blend", "_law_width", "_law_steps", "_law_words"] (defScope s__law_right) := ⟨rfl, rfl, rfl, by decide +kernel, rfl, by decide +kernel, by decide +kernel⟩
theorem bd__law_right : BindOk "_law_right" "_law_right" s__law_right ["_law_blend", "_law_width", "_law_steps", "_law_words"] := fun _ _ _ _ _ _ us hl => match us, hl with | [_, _, _, _], _ => rfl
abbrev s_law : Stmt := top 27
theorem sc_law : FnScope ["_law_script", "_law_pen_here", "_law_turn", "_law_width", "_law_blend", "_law_first", "_law_steps", "_law_again", "_law_step_here", "_law_words"] ["_law_script"] (defScope s_law) := ⟨rfl, rfl, rfl, by decide +kernel, rfl, by decide +kernel, by decide +kernel⟩
theorem bd_law : BindOk "law" "law" s_law ["_law_script"] := fun _ _ _ _ _ _ us hl => match us, hl with | [_], _ => rfl
abbrev s_InvalidWidth___init__ : Stmt := inClass (top 2) 0
/-! ### values of many kinds -/
/-- the objects among them -/
def OvO (o : HO) (d : PyData) : Prop := (o = .tup [] ∧ d = .tuple []) ∨ (o = .lst [] ∧ d = .list []) ∨ (o = .dK [] ∧ d = .dict []) ∨ (o = .tup [.int 8] ∧ d = .tuple [.int 8]) ∨ (o = .lst [.str "w"] ∧ d = .list [.str "w"])
def Ov (H : Hp) (x : V) (d : PyData) : Prop := (x = .non ∧ d = .none) ∨ (∃ b, x = .bl b ∧ d = .bool b) ∨ (∃ i, x = .int i ∧ d = .int i) ∨ (∃ z, x = .str z ∧ d = .str z) ∨ ∃ a o, x = .ref a ∧ H a = some o ∧ OvO o d
theorem oS {H : Hp} (z : Str) : Ov H (.str z) (.str z) := .inr (.inr (.inr (.inl ⟨z, rfl, rfl⟩)))
theorem oI {H : Hp} (z : Int) : Ov H (.int z) (.int z) := .inr (.inr (.inl ⟨z, rfl, rfl⟩))
theorem oB {H : Hp} (z : Bool) : Ov H (.bl z) (.bool z) := .inr (.inl ⟨z, rfl, rfl⟩)
theorem oR {H : Hp} {a : Addr} {o : HO} {d : PyData} (h : H a = some o) (k : OvO o d) : Ov H (.ref a) d := .inr (.inr (.inr (.inr ⟨a, o, rfl, h, k⟩)))
theorem Ov.da {H : Hp} {x : V} {d : PyData} (h : Ov H x d) : Da H x d := by
  rcases h with ⟨rfl, rfl⟩ | ⟨b, rfl, rfl⟩ | ⟨i, rfl, rfl⟩ | ⟨z, rfl, rfl⟩ | ⟨a, o, rfl, ha, h⟩
  · exact .non
  · exact .bl b
  · exact .int i
  · exact .str z
  · rcases h with ⟨rfl, rfl⟩ | ⟨rfl, rfl⟩ | ⟨rfl, rfl⟩ | ⟨rfl, rfl⟩ | ⟨rfl, rfl⟩
    · exact .tup ha .nil
    · exact .lst ha .nil
    · exact .dict0 ha
    · exact .tup ha (.cons (.int _) .nil)
    · exact .lst ha (.cons (.str _) .nil)
theorem Ov.same {H H' : Hp} {x : V} {d : PyData} (s : Same H H') (h : Ov H x d) : Ov H' x d := by
  rcases h with h | h | h | h | ⟨a, o, e, ha, h⟩
  · exact .inl h
  · exact .inr (.inl h)
  · exact .inr (.inr (.inl h))
  · exact .inr (.inr (.inr (.inl h)))
  · exact .inr (.inr (.inr (.inr ⟨a, o, e, s _ _ ha, h⟩)))
def isI : V → Bool | .int _ => true | _ => false
def isB : V → Bool | .bl _ => true | _ => false
def isS : V → Bool | .str _ => true | _ => false
def wd (i : Int) : Bool := decide (i = 8) || decide (i = 16) || decide (i = 32)
def isWd : V → Bool | .int i => wd i | _ => false
theorem wd_of {w : Int} (h : wd w = true) : w = 8 ∨ w = 16 ∨ w = 32 := by
  unfold wd at h
  simp only [Bool.or_eq_true, decide_eq_true_eq] at h
  omega
theorem ov_ty {K : PySem.W.Frag} {H : Hp} {x : V} {d : PyData} (h : Ov H x d) : ∃ t, TyX K H x (.type t) ∧ kitB t "int" = some (isI x || isB x) ∧ kitB t "bool" = some (isB x) ∧ kitB t "str" = some (isS x) := by
  rcases h with ⟨rfl, rfl⟩ | ⟨b, rfl, rfl⟩ | ⟨i, rfl, rfl⟩ | ⟨z, rfl, rfl⟩ | ⟨a, o, rfl, ha, h⟩
  · exact ⟨_, .base .non, by decide +kernel, by decide +kernel, by decide +kernel⟩
  · exact ⟨_, .base (.bl b), by cases b <;> decide +kernel, by cases b <;> decide +kernel, by cases b <;> decide +kernel⟩
  · exact ⟨"int", .base (.int i), show kitB "int" "int" = some true by decide +kernel, show kitB "int" "bool" = some false by decide +kernel, show kitB "int" "str" = some false by decide +kernel⟩
  · exact ⟨"str", .base (.str z), show kitB "str" "int" = some false by decide +kernel, show kitB "str" "bool" = some false by decide +kernel, show kitB "str" "str" = some true by decide +kernel⟩
  · rcases h with ⟨rfl, rfl⟩ | ⟨rfl, rfl⟩ | ⟨rfl, rfl⟩ | ⟨rfl, rfl⟩ | ⟨rfl, rfl⟩
    · exact ⟨"tuple", .base (.tup ha), show kitB "tuple" "int" = some false by decide +kernel, show kitB "tuple" "bool" = some false by decide +kernel, show kitB "tuple" "str" = some false by decide +kernel⟩
    · exact ⟨"list", .base (.lst ha), show kitB "list" "int" = some false by decide +kernel, show kitB "list" "bool" = some false by decide +kernel, show kitB "list" "str" = some false by decide +kernel⟩
    · exact ⟨"dict", .base (.dK ha), show kitB "dict" "int" = some false by decide +kernel, show kitB "dict" "bool" = some false by decide +kernel, show kitB "dict" "str" = some false by decide +kernel⟩
    · exact ⟨"tuple", .base (.tup ha), show kitB "tuple" "int" = some false by decide +kernel, show kitB "tuple" "bool" = some false by decide +kernel, show kitB "tuple" "str" = some false by decide +kernel⟩
    · exact ⟨"list", .base (.lst ha), show kitB "list" "int" = some false by decide +kernel, show kitB "list" "bool" = some false by decide +kernel, show kitB "list" "str" = some false by decide +kernel⟩
/-! ### numbers of blends -/
def fw (w : Int) : Int := 1 * 2 ^ w.toNat - 1
def shf (v s w : Int) : Int := if s < 0 then v / 2 ^ (-s).toNat else Builtin.bitAnd (v * 2 ^ s.toNat) (fw w)
structure Bq where
  w : Int
  s : Int
  k : Int
  f : Int
  deriving DecidableEq
def norm (w s k f : Int) : Bq :=
  let kept := Builtin.bitAnd k (shf (fw w) s w)
  ⟨w, if kept = 0 then 0 else s, kept, f⟩
/-- numbers that are taken -/
def okN (w s k f : Int) : Bool := wd w && decide (-w ≤ s) && decide (s ≤ w) && decide (0 ≤ k) && decide (k ≤ fw w) && decide (0 ≤ f) && decide (f ≤ fw w)
def Bq.ok (b : Bq) : Bool := okN b.w b.s b.k b.f
def calB (b : Bq) (v : Int) : Int := Builtin.bitXor (Builtin.bitAnd (shf v b.s b.w) b.k) b.f
def bf (b : Bq) : List (Str × V) := [("width", .int b.w), ("shift", .int b.s), ("keep", .int b.k), ("flip", .int b.f)]
def BlAt (C : Addr) (H : Hp) (x : Addr) (b : Bq) : Prop := ∃ dx, H x = some (.ins C dx (bf b))
theorem BlAt.same {C : Addr} {H H' : Hp} {x : Addr} {b : Bq} (h : BlAt C H x b) (s : Same H H') : BlAt C H' x b := by
  obtain ⟨dx, e⟩ := h
  exact ⟨dx, s _ _ e⟩
theorem okN_of {w s k f : Int} (h : okN w s k f = true) : wd w = true ∧ -w ≤ s ∧ s ≤ w ∧ 0 ≤ k ∧ k ≤ fw w ∧ 0 ≤ f ∧ f ≤ fw w := by
  unfold okN at h
  simp only [Bool.and_eq_true, decide_eq_true_eq] at h
  obtain ⟨⟨⟨⟨⟨⟨h1, h2⟩, h3⟩, h4⟩, h5⟩, h6⟩, h7⟩ := h
  exact ⟨h1, h2, h3, h4, h5, h6, h7⟩
structure B1 (mg : Str → Option Value) : Prop where
  g_int : mg "int" = none
  g_len : mg "len" = none
  g_abs : mg "abs" = none
  g_list : mg "list" = none
  g_repr : mg "repr" = none
  g_range : mg "range" = none
  g_str : mg "str" = none
  g_isinstance : mg "isinstance" = none
  g_bool : mg "bool" = none
  g_tuple : mg "tuple" = none
structure T1 (K : PySem.W.Frag) (w : World) (mg : Str → Option Value) (C aL aP : Addr) (tl : Int → Addr) : Prop where
  g_Blend : mg "Blend" = some (.ref C)
  g_LANES : mg "LANES" = some (.ref aL)
  kid : KID K aL [(8, .ref (tl 8)), (16, .ref (tl 16)), (32, .ref (tl 32))]
  cl : Cls K C
  nW : NoAttr K C "width"
  nS : NoAttr K C "shift"
  nK : NoAttr K C "keep"
  nF : NoAttr K C "flip"
  isC : PySem.W.findIn K (.ref C) "__class__" = some (some (.builtin "object.__class__"))
  isG : PySem.W.specialIn K (.builtin "object.__class__") "__get__" = some (some (.builtin "getset_descriptor.__get__"))
  isT : PySem.W.takesIn K (.builtin "object.__class__") = some true
  isM : PySem.W.mroIn K C (.type "object") = some true
def spIsInt : Sp := fun vs H Q _ => ∃ (x : V) (d : PyData), vs = [x] ∧ Ov H x d ∧ Q (.bl (isI x)) H
def spIsWd : Sp := fun vs H Q _ => ∃ (x : V) (d : PyData), vs = [x] ∧ Ov H x d ∧ Q (.bl (isWd x)) H
def spFull : Sp := fun vs H Q _ => ∃ n : Int, vs = [.int n] ∧ wd n = true ∧ Q (.int (fw n)) H
def spIsWord : Sp := fun vs H Q _ => ∃ v n : Int, vs = [.int v, .int n] ∧ wd n = true ∧ Q (.bl (decide (0 ≤ v) && decide (v ≤ fw n))) H
def spShf : Sp := fun vs H Q _ => ∃ v s w : Int, vs = [.int v, .int s, .int w] ∧ wd w = true ∧ 0 ≤ v ∧ v ≤ fw w ∧ s ≤ 1000 ∧ Q (.int (shf v s w)) H
def spChkW : Sp := fun vs H Q _ => ∃ v n : Int, vs = [.int v, .int n] ∧ wd n = true ∧ 0 ≤ v ∧ v ≤ fw n ∧ Q .non H
def spChkS : Sp := fun vs H Q _ => ∃ v a b : Int, vs = [.int v, .int a, .int b] ∧ a ≤ v ∧ v ≤ b ∧ Q .non H
def tErrV (E : XK) (H : Hp) (c : Addr) (v : V) : Prop := ∀ (dd : Addr) (H' : Hp), Same H H' → H' dd = some (.xd [("value", v)]) → E (.ref c) (some dd) H'
def spBI (C c0 : Addr) : Sp := fun vs H Q E => ∃ (x dx : Addr), H x = some (.ins C dx []) ∧
  ((∃ (a b c e : V) (d : PyData), vs = [.ref x, a, b, c, e] ∧ Ov H a d ∧ isWd a = false ∧ tErrV E H c0 a) ∨
   (∃ (w s k f : Int) (kv : V), vs = [.ref x, .int w, .int s, kv, .int f] ∧ okN w s k f = true ∧ ((kv = .non ∧ k = fw w) ∨ kv = .int k) ∧ ∀ H', BlAt C H' x (norm w s k f) → (∀ b o, H b = some o → b ≠ x → H' b = some o) → Q .non H'))
def spCal (C : Addr) : Sp := fun vs H Q _ => ∃ (x : Addr) (b : Bq) (v : Int), vs = [.ref x, .int v] ∧ BlAt C H x b ∧ b.ok = true ∧ 0 ≤ v ∧ v ≤ fw b.w ∧ Q (.int (calB b v)) H
section
variable {P : Program} {w : World} {K : PySem.W.Frag} {mg : Str → Option Value} {base : Heap} {C aL aP c0 c1 f0 f1 : Addr} {tl : Int → Addr}
theorem pass_no {X : Cx} : Passes (L2.CX X.prog X.w) X (fun _ _ _ => False) := fun _ _ _ _ _ _ _ h => by
  obtain ⟨_, _, _, _, _, _, _, _, _, _, _, _, z⟩ := h
  exact z.elim
theorem ok_is_int (D : DefAt K mg "is_int" s_is_int ["value"]) (B : B1 mg) : Cal P w K mg base 1 "is_int" spIsInt := by
  refine D.cal sc_is_int (fun vs H Q E h => ?_) (fun f cdv A outer s H vs Q E rm gd h => ?_)
  · obtain ⟨x, d, rfl, _⟩ := h
    rfl
  · obtain ⟨x, d, rfl, ov, q⟩ := h
    obtain ⟨t, ty, k1, k2, _⟩ := ov_ty (K := K) ov
    refine ⟨_, (pss_one (ps_ret (pe_and (pe_callB call_isi (by rfl) B.g_isinstance (by decide +kernel) (pa_cons (pv 0) (pa_cons (pe_bltn (v := .ty "int") rfl B.g_int (by decide +kernel) rfl) pa_nil))) (pe_one (pe_not (pe_callB call_isi (by rfl) B.g_isinstance (by decide +kernel) (pa_cons (pv 0) (pa_cons (pe_bltn (v := .ty "bool") rfl B.g_bool (by decide +kernel) rfl) pa_nil)))))))), ?_⟩
    walk_at "go"
    refine ⟨x, .ty "int", .type t, .type "int", _, rfl, .ty _, ty, kit_ty k1, _, rfl, ?_⟩
    have e : isI x = ((isI x || isB x) && !(isB x)) := by cases x <;> rfl
    rw [e] at q
    cases h : (isI x || isB x) with
    | false =>
      rw [h] at q
      exact iteF q
    | true =>
      rw [h] at q
      refine iteT ?_
      walk_at "go"
      exact ⟨x, .ty "bool", .type t, .type "bool", _, rfl, .ty _, ty, kit_ty k2, _, rfl, q⟩
theorem ok_is_width (D : DefAt K mg "is_width" s_is_width ["value"]) (T : T1 K w mg C aL aP tl) (cis_int : Cal P w K mg base 1 "is_int" spIsInt) : Cal P w K mg base 2 "is_width" spIsWd := by
  refine D.cal sc_is_width (fun vs H Q E h => ?_) (fun f cdv A outer s H vs Q E rm gd h => ?_)
  · obtain ⟨x, d, rfl, _⟩ := h
    rfl
  · obtain ⟨x, d, rfl, ov, q⟩ := h
    refine ⟨_, (pss_one (ps_ret (pe_and (pc cis_int rm (by decide) gd rfl (pa_cons (pv 0) pa_nil)) (pe_one (pe_cmpR op_inKI (pv 0) (pe_glob (v := .ref aL) rfl T.g_LANES rfl) rfl))))), ?_⟩
    walk_at "go"
    refine ⟨x, d, rfl, ov, _, rfl, ?_⟩
    cases x with
    | int i =>
      refine iteT ?_
      walk_at "go"
      refine ⟨i, aL, _, rfl, rfl, T.kid, ?_⟩
      have e : (List.lookup i [(8, V.ref (tl 8)), (16, V.ref (tl 16)), (32, V.ref (tl 32))]).isSome = wd i := by
        unfold wd
        simp only [List.lookup_cons]
        by_cases h1 : i = 8
        · subst h1; rfl
        · by_cases h2 : i = 16
          · subst h2; rfl
          · by_cases h3 : i = 32
            · subst h3; rfl
            · rw [beq_eq_false_iff_ne.mpr h1, beq_eq_false_iff_ne.mpr h2, beq_eq_false_iff_ne.mpr h3, decide_eq_false h1, decide_eq_false h2, decide_eq_false h3]
              rfl
      rw [e]
      exact q
    | _ => exact iteF q
theorem ok_full_word (D : DefAt K mg "full_word" s_full_word ["size"]) : Cal P w K mg base 1 "full_word" spFull := by
  refine D.cal sc_full_word (fun vs H Q E h => ?_) (fun f cdv A outer s H vs Q E rm gd h => ?_)
  · obtain ⟨n, rfl, _⟩ := h
    rfl
  · obtain ⟨n, rfl, hn, q⟩ := h
    have h3 := wd_of hn
    refine ⟨_, (pss_one (ps_ret (pe_op op_sub (pe_op op_shl pe_int (pv 0)) pe_int))), ?_⟩
    walk_at "go"
    refine w_shl ⟨by omega, by omega, by decide⟩ ?_
    walk_at "go"
    exact q
theorem ok_is_word (D : DefAt K mg "is_word" s_is_word ["value", "size"]) (cis_int : Cal P w K mg base 1 "is_int" spIsInt) (cfull_word : Cal P w K mg base 1 "full_word" spFull) : Cal P w K mg base 2 "is_word" spIsWord := by
  refine D.cal sc_is_word (fun vs H Q E h => ?_) (fun f cdv A outer s H vs Q E rm gd h => ?_)
  · obtain ⟨v, n, rfl, _⟩ := h
    rfl
  · obtain ⟨v, n, rfl, hn, q⟩ := h
    refine ⟨_, (pss_one (ps_ret (pe_and (pc cis_int rm (by decide) gd rfl (pa_cons (pv 0) pa_nil)) (pe_one (pe_chain op_le op_le pe_int (pv 0) (pc cfull_word rm (by decide) gd rfl (pa_cons (pv 1) pa_nil))))))), ?_⟩
    walk_at "go"
    refine ⟨_, _, rfl, oI v, _, rfl, ?_⟩
    refine iteT ?_
    walk_at "go"
    cases h : decide (0 ≤ v) with
    | false =>
      rw [h] at q
      exact iteF q
    | true =>
      rw [h] at q
      refine iteT ?_
      walk_at "go"
      refine ⟨n, rfl, hn, ?_⟩
      walk_at "go"
      exact q
theorem ok_check_word (D : DefAt K mg "check_word" s_check_word ["value", "size"]) (cis_word : Cal P w K mg base 2 "is_word" spIsWord) : Cal P w K mg base 3 "check_word" spChkW := by
  refine D.cal sc_check_word (fun vs H Q E h => ?_) (fun f cdv A outer s H vs Q E rm gd h => ?_)
  · obtain ⟨v, n, rfl, _⟩ := h
    rfl
  · obtain ⟨v, n, rfl, hn, h1, h2, q⟩ := h
    refine ⟨_, (pss_one (ps_if (pt_not (pt_val (pc cis_word rm (by decide) gd rfl (pa_cons (pv 0) (pa_cons (pv 1) pa_nil)))))
      (pss_one ps_never)
      pss_nil)), ?_⟩
    walk_at "go"
    refine ⟨v, n, rfl, hn, _, rfl, ?_⟩
    rw [decide_eq_true h1, decide_eq_true h2]
    refine iteF ?_
    walk_at "go"
    exact q
theorem ok_check_shift (D : DefAt K mg "check_shift" s_check_shift ["value", "least", "most"]) (cis_int : Cal P w K mg base 1 "is_int" spIsInt) : Cal P w K mg base 2 "check_shift" spChkS := by
  refine D.cal sc_check_shift (fun vs H Q E h => ?_) (fun f cdv A outer s H vs Q E rm gd h => ?_)
  · obtain ⟨v, a, b, rfl, _⟩ := h
    rfl
  · obtain ⟨v, a, b, rfl, h1, h2, q⟩ := h
    refine ⟨_, (pss_one (ps_if (PW.pt (pw_or (pt_not (pt_val (pc cis_int rm (by decide) gd rfl (pa_cons (pv 0) pa_nil)))) (pw_or1 (pt_not (pt_chain op_le op_le (pv 1) (pv 0) (pv 2))))))
      (pss_one ps_never)
      pss_nil)), ?_⟩
    walk_at "go"
    refine ⟨_, _, rfl, oI v, _, rfl, ?_⟩
    refine iteF ?_
    walk_at "go"
    rw [decide_eq_true h1]
    refine iteT ?_
    walk_at "go"
    rw [decide_eq_true h2]
    refine iteF ?_
    walk_at "go"
    exact q
theorem ok_shifted (D : DefAt K mg "shifted" s_shifted ["word", "shift", "width"]) (cfull_word : Cal P w K mg base 1 "full_word" spFull) : Cal P w K mg base 2 "shifted" spShf := by
  refine D.cal sc_shifted (fun vs H Q E h => ?_) (fun f cdv A outer s H vs Q E rm gd h => ?_)
  · obtain ⟨v, s, n, rfl, _⟩ := h
    rfl
  · obtain ⟨v, s, n, rfl, hn, v0, v1, hs, q⟩ := h
    have h3 := wd_of hn
    have v2 : v.natAbs < 2 ^ 64 := by
      have : fw n ≤ 4294967295 := by
        rcases h3 with rfl | rfl | rfl <;> decide
      omega
    refine ⟨_, (pss_cons (ps_if (pt_cmpR op_lt (pv 1) pe_int (nomark _))
      (pss_one (ps_ret (pe_op op_shr (pv 0) (pe_un un_neg (pv 1)))))
      pss_nil)
    (pss_one (ps_ret (pe_op op_and (pe_op op_shl (pv 0) (pv 1)) (pc cfull_word rm (by decide) gd rfl (pa_cons (pv 2) pa_nil)))))), ?_⟩
    walk_at "go"
    by_cases h : s < 0
    · rw [decide_eq_true h]
      refine iteT ?_
      walk_at "go"
      unfold shf at q
      rw [if_pos h] at q
      exact q
    · rw [decide_eq_false h]
      refine iteF ?_
      walk_at "go"
      refine w_shl ⟨by omega, by omega, v2⟩ ?_
      walk_at "go"
      refine ⟨n, rfl, hn, ?_⟩
      walk_at "go"
      unfold shf at q
      rw [if_neg h] at q
      exact q
theorem ok_BI {f : Addr} {fd : FuncData} {dvs : List V} {kws : List (Str × V)} (F : FunD K "__init__" "Blend.__init__" (defArgs s_Blend___init__) (defBody s_Blend___init__) (defScope s_Blend___init__) dvs kws f fd) (T : T1 K w mg C aL aP tl) (gE0 : mg "InvalidWidth" = some (.ref c0))
    (TE0 : ErrC P K c0 f0 "InvalidWidth.__init__" "value" "value" (defArgs s_InvalidWidth___init__) (defBody s_InvalidWidth___init__) (defScope s_InvalidWidth___init__)) (TX0 : ErrX s_InvalidWidth___init__ "InvalidWidth.__init__" "value" "value")
    (cis_width : Cal P w K mg base 2 "is_width" spIsWd) (ccheck_shift : Cal P w K mg base 2 "check_shift" spChkS) (cfull_word : Cal P w K mg base 1 "full_word" spFull) (ccheck_word : Cal P w K mg base 3 "check_word" spChkW) (cshifted : Cal P w K mg base 2 "shifted" spShf) :
    Gd P w K mg base (L2.CX P w) 4 f fd ["self", "width", "shift", "keep", "flip"] (spBI C c0) := by
  refine gdD (k := 3) F sc_Blend___init__ (fun vs H Q E h => ?_) (fun cdv A outer s H vs Q E rm gd h => ?_)
  · obtain ⟨x, dx, hx, ⟨a, b, c, e, d, rfl, _⟩ | ⟨w, s, k, f, kv, rfl, _⟩⟩ := h <;> rfl
  · obtain ⟨x, dx, hx, hh⟩ := h
    have tk := takes_cx (P := P) (w := w) (K := K) (mg := mg) (base := base) (N := ["self", "width", "shift", "keep", "flip", "full", "kept"]) (qual := "Blend.__init__") (sc := defScope s_Blend___init__) (f := f) (cd := cdv) (A := A) (outer := outer) (s := s) (H := H) (E := E)
    have cl := T.cl
    have nW := T.nW
    have nS := T.nS
    have nK := T.nK
    have nF := T.nF
    refine ⟨_, (pss_cons (ps_if (pt_not (pt_val (pc cis_width rm (by decide) gd rfl (pa_cons (pv 1) pa_nil))))
      (pss_one (ps_raise rfl tk (pmk_errX TE0 TX0 (k := 0) (rm.mono (by decide)) rfl gE0 (pa_cons (pv 1) pa_nil))))
      pss_nil)
    (pss_cons (ps_expr (pc ccheck_shift rm (by decide) gd rfl (pa_cons (pv 2) (pa_cons (pe_un un_neg (pv 1)) (pa_cons (pv 1) pa_nil)))))
    (pss_cons (ps_set (i := 5) sc_Blend___init__.nd rfl (Or.inl rfl) (pc cfull_word rm (by decide) gd rfl (pa_cons (pv 1) pa_nil)))
    (pss_mid (ps_if (pt_cmpR op_isN (pv 3) pe_non (nomark _))
      (pss_one (ps_set (i := 3) sc_Blend___init__.nd rfl (Or.inl rfl) (pv 5)))
      pss_nil)
    (pss_cons (ps_expr (pc ccheck_word rm (by decide) gd rfl (pa_cons (pv 3) (pa_cons (pv 1) pa_nil))))
    (pss_cons (ps_expr (pc ccheck_word rm (by decide) gd rfl (pa_cons (pv 4) (pa_cons (pv 1) pa_nil))))
    (pss_cons (ps_set (i := 6) sc_Blend___init__.nd rfl (Or.inl rfl) (pe_op op_and (pv 3) (pc cshifted rm (by decide) gd rfl (pa_cons (pv 5) (pa_cons (pv 2) (pa_cons (pv 1) pa_nil))))))
    (pss_cons (ps_fld (pv 0) (pv 1) rfl)
    (pss_cons (ps_fld (pv 0) (pe_ifExp (pt_cmpR op_ne (pv 6) pe_int (nomark _)) (pv 2) pe_int) rfl)
    (pss_cons (ps_fld (pv 0) (pv 6) rfl)
    (pss_one (ps_fld (pv 0) (pv 4) rfl)))))))))))), ?_⟩
    rcases hh with ⟨a, b, c, e, d, rfl, ov, hw, q⟩ | ⟨w, s, k, f, kv, rfl, hok, hk, q⟩
    · walk_at "go"
      refine ⟨a, d, rfl, ov, _, rfl, ?_⟩
      rw [hw]
      refine iteT ?_
      refine w_cons (w_var rfl (w_nil ⟨a, rfl, fun dd H6 nd hd keep => q dd H6 (fun b o e => ?_) hd⟩))
      exact (keep b (ne_of_none e nd)).trans e
    · obtain ⟨h1, h2, h3, h4, h5, h6, h7⟩ := okN_of hok
      have hw := wd_of h1
      walk_at "go"
      refine ⟨.int w, _, rfl, oI w, _, rfl, ?_⟩
      rw [show isWd (.int w) = true from h1]
      refine iteF ?_
      walk_at "go"
      refine ⟨s, -w, w, rfl, h2, h3, ?_⟩
      walk_at "go"
      refine ⟨w, rfl, h1, ?_⟩
      walk_at "go"
      have nk : fw w ≤ 4294967295 := by rcases hw with rfl | rfl | rfl <;> decide
      have n0 : 0 ≤ fw w := by rcases hw with rfl | rfl | rfl <;> decide
      refine w_mid (fun σ' H' => σ' = [some (.ref x), some (.int w), some (.int s), some (.int k), some (.int f), some (.int (fw w)), none] ∧ H' = H) ?_ fun σ' H' ⟨es, eh⟩ => ?_
      · walk_at "go"
        refine ⟨rfl, ?_⟩
        walk_at "go"
        rcases hk with ⟨rfl, rfl⟩ | rfl
        · refine iteT ?_
          walk_at "go"
          exact ⟨rfl, rfl⟩
        · refine iteF ?_
          walk_at "go"
          exact ⟨rfl, rfl⟩
      · subst es
        subst eh
        walk_at "go"
        refine ⟨k, w, rfl, h1, h4, h5, ?_⟩
        walk_at "go"
        refine ⟨f, w, rfl, h1, h6, h7, ?_⟩
        walk_at "go"
        refine ⟨fw w, s, w, rfl, h1, n0, Int.le_refl _, by rcases hw with rfl | rfl | rfl <;> omega, ?_⟩
        walk_at "go"
        refine sfld hx cl nW (by show 0 < 1000; decide) rfl fun H6 h6 e6 => ?_
        walk_at "go"
        have fin : ∀ (H7 H8 H9 : Hp), (∀ b, b ≠ x → H7 b = H6 b) → (∀ b, b ≠ x → H8 b = H7 b) → (∀ b, b ≠ x → H9 b = H8 b) → H9 x = some (.ins C dx [("width", .int w), ("shift", .int (if Builtin.bitAnd k (shf (fw w) s w) = 0 then 0 else s)), ("keep", .int (Builtin.bitAnd k (shf (fw w) s w))), ("flip", .int f)]) → Q .non H9 := fun H7 H8 H9 e7 e8 e9 h9 => by
          refine q H9 ⟨dx, h9⟩ fun b o e nb => ?_
          rw [e9 b nb, e8 b nb, e7 b nb, e6 b nb]
          exact e
        by_cases z : Builtin.bitAnd k (shf (fw w) s w) = 0
        · rw [show (!decide (V.int (Builtin.bitAnd k (shf (fw w) s w)) = V.int 0)) = false by rw [z]; rfl]
          refine iteF ?_
          walk_at "go"
          refine sfld h6 cl nS (by show 1 < 1000; decide) rfl fun H7 h7 e7 => ?_
          walk_at "go"
          refine sfld h7 cl nK (by show 2 < 1000; decide) rfl fun H8 h8 e8 => ?_
          walk_at "go"
          refine sfld h8 cl nF (by show 3 < 1000; decide) rfl fun H9 h9 e9 => ?_
          refine fin H7 H8 H9 e7 e8 e9 ?_
          rw [if_pos z]
          exact h9
        · rw [show (!decide (V.int (Builtin.bitAnd k (shf (fw w) s w)) = V.int 0)) = true by rw [decide_eq_false fun e => z (V.int.inj e)]; rfl]
          refine iteT ?_
          walk_at "go"
          refine sfld h6 cl nS (by show 1 < 1000; decide) rfl fun H7 h7 e7 => ?_
          walk_at "go"
          refine sfld h7 cl nK (by show 2 < 1000; decide) rfl fun H8 h8 e8 => ?_
          walk_at "go"
          refine sfld h8 cl nF (by show 3 < 1000; decide) rfl fun H9 h9 e9 => ?_
          refine fin H7 H8 H9 e7 e8 e9 ?_
          rw [if_neg z]
          exact h9
theorem at_fld {H : Hp} {x : Addr} {b : Bq} (h : BlAt C H x b) : ∃ dx, H x = some (.ins C dx [("width", .int b.w), ("shift", .int b.s), ("keep", .int b.k), ("flip", .int b.f)]) := h
/-- a new blend of right numbers -/
theorem mk_bl {w s k f : Int} {H : Hp} {Q : VK} {E : XK} (ok : okN w s k f = true) (q : ∀ (r : Addr) (H' : Hp), H r = none → BlAt C H' r (norm w s k f) → Same H H' → Q (.ref r) H') : Make C (spBI C c0) (fun x => x :: ([.int w, .int s, .int k, .int f] ++ [])) E H Q :=
  make fun x dx H1 n1 h1 s1 => ⟨x, dx, h1, .inr ⟨w, s, k, f, .int k, rfl, ok, .inr rfl, fun H2 h2 e2 => ⟨rfl, q x H2 n1 h2 fun b o e => e2 b o (s1 b o e) (ne_of_none e n1)⟩⟩⟩
theorem wd_fw {w : Int} (h : wd w = true) : 0 ≤ fw w ∧ fw w ≤ 4294967295 ∧ w ≤ 32 ∧ 8 ≤ w := by
  rcases wd_of h with rfl | rfl | rfl <;> decide
section
variable {f fT : Addr} {fd : FuncData}
theorem ok_call (D : MetAt K C "__call__" "Blend.__call__" s_Blend___call__ ["self", "value"] f) (T : T1 K w mg C aL aP tl) (ccheck_word : Cal P w K mg base 3 "check_word" spChkW) (cshifted : Cal P w K mg base 2 "shifted" spShf) :
    ∃ fd, Meth K C "__call__" f ∧ Fun K "__call__" "Blend.__call__" s_Blend___call__ f fd ∧ Binds K fd ["self", "value"] [] ∧ Gd P w K mg base CX0 4 f fd ["self", "value"] (spCal C) := by
  refine D.gd (k := 3) sc_Blend___call__ (fun vs H Q E h => ?_) (fun cdv A outer s H vs Q E rm gd h => ?_)
  · obtain ⟨x, b, m, rfl, _⟩ := h
    rfl
  · obtain ⟨x, b, v, rfl, hx, hok, v0, v1, q⟩ := h
    obtain ⟨dx, hx⟩ := at_fld hx
    have cl := T.cl
    have nW := T.nW
    have nS := T.nS
    have nK := T.nK
    have nF := T.nF
    have B := T
    obtain ⟨b1, b2, b3, b4, b6, b7, b8⟩ := okN_of hok
    obtain ⟨f0, f1, f2, f3⟩ := wd_fw b1
    refine ⟨_, (pss_cons (ps_expr (pc ccheck_word rm (by decide) gd rfl (pa_cons (pv 1) (pa_cons (pe_fld (pv 0) rfl) pa_nil))))
    (pss_one (ps_ret (pe_op op_xor (pe_op op_and (pc cshifted rm (by decide) gd rfl (pa_cons (pv 1) (pa_cons (pe_fld (pv 0) rfl) (pa_cons (pe_fld (pv 0) rfl) pa_nil)))) (pe_fld (pv 0) rfl)) (pe_fld (pv 0) rfl))))), ?_⟩
    walk_at "go"
    refine ⟨v, b.w, rfl, b1, v0, v1, ?_⟩
    walk_at "go"
    refine ⟨v, b.s, b.w, rfl, b1, v0, v1, by omega, ?_⟩
    walk_at "go"
    exact q
end
end
/-! ### blends by whole numbers from 0 on -/
theorem fw_nat {w : Int} (h : wd w = true) : fw w = ((fullN w.toNat : Nat) : Int) := by
  rcases wd_of h with rfl | rfl | rfl <;> rfl
theorem shf_nat {w s : Int} {v : Nat} (hv : v < 2 ^ w.toNat) : shf (v : Int) s w = ((gN w.toNat s v : Nat) : Int) := by
  unfold shf gN
  by_cases h : s < 0
  · rw [if_pos h, if_pos h, Nat.shiftRight_eq_div_pow]
    simp
  · rw [if_neg h, if_neg h, Nat.shiftLeft_eq]
    show Builtin.bitAnd ((v : Int) * 2 ^ s.toNat) (1 * 2 ^ w.toNat - 1) = _
    rw [and_pow (Int.mul_nonneg (Int.natCast_nonneg v) (Int.le_of_lt (Int.pow_pos (by decide))))]
    simp
/-- the blend of some numbers -/
def BN (w s : Int) (k f : Nat) : Bq := ⟨w, sN w.toNat s k, (kN w.toNat s k : Nat), (f : Nat)⟩
/-- .. its results -/
def RN (w s : Int) (k f v : Nat) : Nat := FN w.toNat s (kN w.toNat s k) f v
structure NumOk (w s : Int) (k f : Nat) : Prop where
  lo : -w ≤ s
  hi : s ≤ w
  k : k < 2 ^ w.toNat
  f : f < 2 ^ w.toNat
theorem fw_pow {w : Int} (h : wd w = true) {v : Nat} : (v : Int) ≤ fw w ↔ v < 2 ^ w.toNat := by
  rcases wd_of h with rfl | rfl | rfl
  · show (v : Int) ≤ 255 ↔ v < 256
    omega
  · show (v : Int) ≤ 65535 ↔ v < 65536
    omega
  · show (v : Int) ≤ 4294967295 ↔ v < 4294967296
    omega
theorem norm_nat {w s : Int} {k f : Nat} (h : wd w = true) : norm w s (k : Int) (f : Int) = BN w s k f := by
  unfold norm BN sN
  have e : Builtin.bitAnd (k : Int) (shf (fw w) s w) = ((kN w.toNat s k : Nat) : Int) := by
    rw [fw_nat h, shf_nat (full_lt _), PyProof.Rows.bitAnd_pp (Int.natCast_nonneg _) (Int.natCast_nonneg _)]
    rfl
  rw [e]
  dsimp only
  by_cases z : kN w.toNat s k = 0
  · rw [if_pos z, z]; rfl
  · rw [if_neg z, if_neg (by omega)]
theorem NumOk.okN {w s : Int} {k f : Nat} (h : wd w = true) (o : NumOk w s k f) : okN w s (k : Int) (f : Int) = true := by
  unfold Law.okN
  simp only [Bool.and_eq_true, decide_eq_true_eq]
  exact ⟨⟨⟨⟨⟨⟨h, o.lo⟩, o.hi⟩, Int.natCast_nonneg _⟩, (fw_pow h).mpr o.k⟩, Int.natCast_nonneg _⟩, (fw_pow h).mpr o.f⟩
theorem kN_lt {w : Nat} {s : Int} {k : Nat} (h : k < 2 ^ w) : kN w s k < 2 ^ w := Nat.lt_of_le_of_lt Nat.and_le_left h
theorem BN_ok {w s : Int} {k f : Nat} (h : wd w = true) (o : NumOk w s k f) : (BN w s k f).ok = true := by
  have : NumOk w (sN w.toNat s k) (kN w.toNat s k) f := by
    refine ⟨?_, ?_, kN_lt o.k, o.f⟩
    · unfold sN; split
      · have := wd_of h; omega
      · exact o.lo
    · unfold sN; split
      · have := wd_of h; omega
      · exact o.hi
  exact this.okN h
theorem cal_nat {w s : Int} {k f v : Nat} (hv : v < 2 ^ w.toNat) : calB (BN w s k f) (v : Int) = ((RN w s k f v : Nat) : Int) := by
  unfold calB BN RN
  dsimp only
  rw [shf_nat hv, PyProof.Rows.bitAnd_pp (Int.natCast_nonneg _) (Int.natCast_nonneg _), Bits.bitXor_pp (Int.natCast_nonneg _) (Int.natCast_nonneg _)]
  simp only [Int.toNat_natCast]
  rw [← FN_norm]
  rfl
theorem RN_lt {w s : Int} {k f v : Nat} (o : NumOk w s k f) : RN w s k f v < 2 ^ w.toNat := FN_lt (kN_lt o.k) o.f
theorem RN_xor {w s : Int} {k f : Nat} : ∀ a b, a < 2 ^ w.toNat → b < 2 ^ w.toNat → RN w s k f (a ^^^ b) = RN w s k f a ^^^ RN w s k f b ^^^ RN w s k f 0 := fun _ _ => FN_xor
/-- the text of a blend -/
def rp (b : Bq) : Str := Str.empty ++ "Blend(" ++ (toString b.w : String) ++ ", " ++ (toString b.s : String) ++ ", " ++ (toString b.k : String) ++ ", " ++ (toString b.f : String) ++ ")"
def spRp (C : Addr) : Sp := fun vs H Q _ => ∃ (x : Addr) (b : Bq), vs = [.ref x] ∧ BlAt C H x b ∧ b.ok = true ∧ Q (.str (rp b)) H
section
variable {P : Program} {w : World} {K : PySem.W.Frag} {mg : Str → Option Value} {base : Heap} {C aL aP c0 c1 f0 f1 : Addr} {tl : Int → Addr}
theorem num_len {b : Bq} (h : b.ok = true) : (b.w.natAbs < 10 ^ 10 ∧ b.s.natAbs < 10 ^ 10 ∧ b.k.natAbs < 10 ^ 10 ∧ b.f.natAbs < 10 ^ 10) := by
  obtain ⟨h1, h2, h3, h4, h5, h6, h7⟩ := okN_of h
  obtain ⟨f0, f1, f2, f3⟩ := wd_fw h1
  refine ⟨?_, ?_, ?_, ?_⟩ <;> omega
theorem log_small {i : Int} (h : i.natAbs < 10 ^ 10) : i.natAbs.log2 < 1920 := by
  by_cases z : i.natAbs = 0
  · rw [z]; decide
  · rw [Nat.log2_lt z]
    exact Nat.lt_of_lt_of_le (show i.natAbs < 2 ^ 40 by omega) (Nat.pow_le_pow_right (by decide) (by decide))
theorem int_len {i : Int} (h : i.natAbs < 10 ^ 10) : (Str.ofString (toString i)).length ≤ 1921 := PyProof.Rows.int_text_len_1921 (log_small h)
theorem ln {a b : Str} {n m k : Nat} (h1 : a.length ≤ n) (h2 : b.length ≤ m) (h : n + m ≤ k) : (a ++ b).length ≤ k := by
  rw [strLen_append]
  omega
theorem ok_RP {f : Addr} (D : MetAt K C "__repr__" "Blend.__repr__" s_Blend___repr__ ["self"] f) (T : T1 K w mg C aL aP tl) : ∃ fd, Meth K C "__repr__" f ∧ Fun K "__repr__" "Blend.__repr__" s_Blend___repr__ f fd ∧ Binds K fd ["self"] [] ∧ Gd P w K mg base CX0 1 f fd ["self"] (spRp C) := by
  refine D.gd sc_Blend___repr__ (fun vs H Q E h => ?_) (fun cdv A outer s H vs Q E rm gd h => ?_)
  · obtain ⟨x, b, rfl, _⟩ := h
    rfl
  · obtain ⟨x, b, rfl, hx, ok, q⟩ := h
    obtain ⟨dx, hx⟩ := at_fld hx
    have cl := T.cl
    have nW := T.nW
    have nS := T.nS
    have nK := T.nK
    have nF := T.nF
    obtain ⟨b1, b2, b3, b4⟩ := num_len ok
    have e0 : (Str.empty ++ ("Blend(" : Str)).length ≤ 6 := ln (n := 0) (m := 6) (Nat.le_refl _) (by decide) (by decide)
    have e1 := ln e0 (int_len b1) (k := 2000) (by decide)
    have e2 := ln e1 (b := (", " : Str)) (m := 2) (k := 2010) (by decide) (by decide)
    have e3 := ln e2 (int_len b2) (k := 4000) (by decide)
    have e4 := ln e3 (b := (", " : Str)) (m := 2) (k := 4010) (by decide) (by decide)
    have e5 := ln e4 (int_len b3) (k := 6000) (by decide)
    have e6 := ln e5 (b := (", " : Str)) (m := 2) (k := 6010) (by decide) (by decide)
    have e7 := ln e6 (int_len b4) (k := 8000) (by decide)
    have e8 := ln e7 (b := (")" : Str)) (m := 1) (k := 8010) (by decide) (by decide)
    have big : ∀ {n k : Nat}, n ≤ k → k ≤ 10000 → n ≤ sizeLine := fun h k => Nat.le_trans h (Nat.le_trans k (by decide))
    refine ⟨_, (pss_one (ps_ret (pe_joined (.cons pe_str (.cons (pe_fmt (pe_fld (pv 0) rfl)) (.cons pe_str (.cons (pe_fmt (pe_fld (pv 0) rfl)) (.cons pe_str (.cons (pe_fmt (pe_fld (pv 0) rfl)) (.cons pe_str (.cons (pe_fmt (pe_fld (pv 0) rfl)) (.cons pe_str .nil)))))))))))), ?_⟩
    refine ⟨"Blend(", rfl, big e0 (by decide), ?_⟩
    refine ⟨_, rfl, x, C, dx, _, _, rfl, hx, cl, nW, rfl, .inr ⟨b.w, rfl, log_small b1, _, rfl, big e1 (by decide), ", ", rfl, big e2 (by decide), ?_⟩⟩
    refine ⟨_, rfl, x, C, dx, _, _, rfl, hx, cl, nS, rfl, .inr ⟨b.s, rfl, log_small b2, _, rfl, big e3 (by decide), ", ", rfl, big e4 (by decide), ?_⟩⟩
    refine ⟨_, rfl, x, C, dx, _, _, rfl, hx, cl, nK, rfl, .inr ⟨b.k, rfl, log_small b3, _, rfl, big e5 (by decide), ", ", rfl, big e6 (by decide), ?_⟩⟩
    exact ⟨_, rfl, x, C, dx, _, _, rfl, hx, cl, nF, rfl, .inr ⟨b.f, rfl, log_small b4, _, rfl, big e7 (by decide), ")", rfl, big e8 (by decide), q⟩⟩
/-! ### operators with words -/
theorem dI' (a b : Int) : decide (V.int a = V.int b) = decide (a = b) := by
  by_cases h : a = b
  · rw [h, decide_eq_true rfl, decide_eq_true rfl]
  · rw [decide_eq_false h, decide_eq_false fun e => h (V.int.inj e)]
theorem and_w {w a b : Int} (h : wd w = true) (a0 : 0 ≤ a) (a1 : a ≤ fw w) (b0 : 0 ≤ b) (b1 : b ≤ fw w) : 0 ≤ Builtin.bitAnd a b ∧ Builtin.bitAnd a b ≤ fw w := by
  obtain ⟨m, rfl⟩ := Int.eq_ofNat_of_zero_le a0
  obtain ⟨n, rfl⟩ := Int.eq_ofNat_of_zero_le b0
  rw [PyProof.Rows.bitAnd_pp a0 b0]
  exact ⟨Int.natCast_nonneg _, (fw_pow h).mpr (Nat.and_lt_two_pow _ ((fw_pow h).mp b1))⟩
theorem xor_w {w a b : Int} (h : wd w = true) (a0 : 0 ≤ a) (a1 : a ≤ fw w) (b0 : 0 ≤ b) (b1 : b ≤ fw w) : 0 ≤ Builtin.bitXor a b ∧ Builtin.bitXor a b ≤ fw w := by
  obtain ⟨m, rfl⟩ := Int.eq_ofNat_of_zero_le a0
  obtain ⟨n, rfl⟩ := Int.eq_ofNat_of_zero_le b0
  rw [Bits.bitXor_pp a0 b0]
  exact ⟨Int.natCast_nonneg _, (fw_pow h).mpr (Nat.xor_lt_two_pow ((fw_pow h).mp a1) ((fw_pow h).mp b1))⟩
theorem or_w {w a b : Int} (h : wd w = true) (a0 : 0 ≤ a) (a1 : a ≤ fw w) (b0 : 0 ≤ b) (b1 : b ≤ fw w) : 0 ≤ Builtin.bitOr a b ∧ Builtin.bitOr a b ≤ fw w := by
  obtain ⟨m, rfl⟩ := Int.eq_ofNat_of_zero_le a0
  obtain ⟨n, rfl⟩ := Int.eq_ofNat_of_zero_le b0
  rw [Bits.bitOr_pp a0 b0]
  exact ⟨Int.natCast_nonneg _, (fw_pow h).mpr (Nat.or_lt_two_pow ((fw_pow h).mp a1) ((fw_pow h).mp b1))⟩
theorem okN_mk {w s k f : Int} (h : wd w = true) (s0 : -w ≤ s) (s1 : s ≤ w) (k' : 0 ≤ k ∧ k ≤ fw w) (f' : 0 ≤ f ∧ f ≤ fw w) : okN w s k f = true := by
  unfold okN
  simp only [Bool.and_eq_true, decide_eq_true_eq]
  exact ⟨⟨⟨⟨⟨⟨h, s0⟩, s1⟩, k'.1⟩, k'.2⟩, f'.1⟩, f'.2⟩
def gAnd (b : Bq) (v : Int) : Bq := norm b.w b.s (Builtin.bitAnd b.k v) (Builtin.bitAnd b.f v)
def gOr (b : Bq) (v : Int) : Bq := norm b.w b.s (Builtin.bitAnd b.k (Builtin.bitXor v (fw b.w))) (Builtin.bitOr b.f v)
def gXor (b : Bq) (v : Int) : Bq := norm b.w b.s b.k (Builtin.bitXor b.f v)
def spW2 (C : Addr) (g : Bq → Int → Bq) : Sp := fun vs H Q _ => ∃ (x : Addr) (b : Bq) (v : Int), vs = [.ref x, .int v] ∧ BlAt C H x b ∧ b.ok = true ∧ 0 ≤ v ∧ v ≤ fw b.w ∧ ∀ (r : Addr) (H' : Hp), H r = none → BlAt C H' r (g b v) → Same H H' → Q (.ref r) H'
def spInv (C : Addr) : Sp := fun vs H Q _ => ∃ (x : Addr) (b : Bq), vs = [.ref x] ∧ BlAt C H x b ∧ b.ok = true ∧ ∀ (r : Addr) (H' : Hp), H r = none → BlAt C H' r (gXor b (fw b.w)) → Same H H' → Q (.ref r) H'
section
variable {f g fT : Addr} {fd fdA : FuncData}
theorem ok_and (D : MetAt K C "__and__" "Blend.__and__" s_Blend___and__ ["self", "other"] f) (T : T1 K w mg C aL aP tl) (MK : Mk K C fT) (FIN : Gd P w K mg base (L2.CX P w) 4 fT fd ["self", "width", "shift", "keep", "flip"] (spBI C c0)) (b5 : Binds K fd ["self", "width", "shift", "keep", "flip"] []) (ccheck_word : Cal P w K mg base 3 "check_word" spChkW) :
    ∃ fd, Meth K C "__and__" f ∧ Fun K "__and__" "Blend.__and__" s_Blend___and__ f fd ∧ Binds K fd ["self", "other"] [] ∧ Gd P w K mg base CX0 6 f fd ["self", "other"] (spW2 C gAnd) := by
  refine D.gd (k := 5) sc_Blend___and__ (fun vs H Q E h => ?_) (fun cdv A outer s H vs Q E rm gd h => ?_)
  · obtain ⟨x, b, v, rfl, _⟩ := h
    rfl
  · obtain ⟨x, b, v, rfl, hx, hok, v0, v1, q⟩ := h
    obtain ⟨dx, hx⟩ := at_fld hx
    have cl := T.cl
    have nW := T.nW
    have nS := T.nS
    have nK := T.nK
    have nF := T.nF
    have rm5 := rm
    obtain ⟨b1, b2, b3, b4, b6, b7, b8⟩ := okN_of hok
    refine ⟨_, (pss_cons (ps_expr (pc ccheck_word rm (by decide) gd rfl (pa_cons (pv 1) (pa_cons (pe_fld (pv 0) rfl) pa_nil))))
    (pss_one (ps_ret (pe_gmake MK FIN rm5 gd rfl T.g_Blend b5 .nil pass_no (pa_cons (pe_fld (pv 0) rfl) (pa_cons (pe_fld (pv 0) rfl) (pa_cons (pe_op op_and (pe_fld (pv 0) rfl) (pv 1)) (pa_cons (pe_op op_and (pe_fld (pv 0) rfl) (pv 1)) pa_nil)))))))), ?_⟩
    walk_at "go"
    refine ⟨v, b.w, rfl, b1, v0, v1, ?_⟩
    walk_at "go"
    exact mk_bl (okN_mk b1 b2 b3 (and_w b1 b4 b6 v0 v1) (and_w b1 b7 b8 v0 v1)) fun r H' n h z => q r H' n h z
theorem ok_or (D : MetAt K C "__or__" "Blend.__or__" s_Blend___or__ ["self", "other"] f) (T : T1 K w mg C aL aP tl) (MK : Mk K C fT) (FIN : Gd P w K mg base (L2.CX P w) 4 fT fd ["self", "width", "shift", "keep", "flip"] (spBI C c0)) (b5 : Binds K fd ["self", "width", "shift", "keep", "flip"] []) (ccheck_word : Cal P w K mg base 3 "check_word" spChkW) (cfull_word : Cal P w K mg base 1 "full_word" spFull) :
    ∃ fd, Meth K C "__or__" f ∧ Fun K "__or__" "Blend.__or__" s_Blend___or__ f fd ∧ Binds K fd ["self", "other"] [] ∧ Gd P w K mg base CX0 6 f fd ["self", "other"] (spW2 C gOr) := by
  refine D.gd (k := 5) sc_Blend___or__ (fun vs H Q E h => ?_) (fun cdv A outer s H vs Q E rm gd h => ?_)
  · obtain ⟨x, b, v, rfl, _⟩ := h
    rfl
  · obtain ⟨x, b, v, rfl, hx, hok, v0, v1, q⟩ := h
    obtain ⟨dx, hx⟩ := at_fld hx
    have cl := T.cl
    have nW := T.nW
    have nS := T.nS
    have nK := T.nK
    have nF := T.nF
    have rm5 := rm
    obtain ⟨b1, b2, b3, b4, b6, b7, b8⟩ := okN_of hok
    obtain ⟨n0, _⟩ := wd_fw b1
    refine ⟨_, (pss_cons (ps_expr (pc ccheck_word rm (by decide) gd rfl (pa_cons (pv 1) (pa_cons (pe_fld (pv 0) rfl) pa_nil))))
    (pss_cons (ps_set (i := 2) sc_Blend___or__.nd rfl (Or.inl rfl) (pe_op op_xor (pv 1) (pc cfull_word rm (by decide) gd rfl (pa_cons (pe_fld (pv 0) rfl) pa_nil))))
    (pss_one (ps_ret (pe_gmake MK FIN rm5 gd rfl T.g_Blend b5 .nil pass_no (pa_cons (pe_fld (pv 0) rfl) (pa_cons (pe_fld (pv 0) rfl) (pa_cons (pe_op op_and (pe_fld (pv 0) rfl) (pv 2)) (pa_cons (pe_op op_or (pe_fld (pv 0) rfl) (pv 1)) pa_nil))))))))), ?_⟩
    walk_at "go"
    refine ⟨v, b.w, rfl, b1, v0, v1, ?_⟩
    walk_at "go"
    refine ⟨b.w, rfl, b1, ?_⟩
    walk_at "go"
    have z := xor_w b1 v0 v1 n0 (Int.le_refl _)
    exact mk_bl (okN_mk b1 b2 b3 (and_w b1 b4 b6 z.1 z.2) (or_w b1 b7 b8 v0 v1)) fun r H' n h z => q r H' n h z
theorem ok_xor (D : MetAt K C "__xor__" "Blend.__xor__" s_Blend___xor__ ["self", "other"] f) (T : T1 K w mg C aL aP tl) (MK : Mk K C fT) (FIN : Gd P w K mg base (L2.CX P w) 4 fT fd ["self", "width", "shift", "keep", "flip"] (spBI C c0)) (b5 : Binds K fd ["self", "width", "shift", "keep", "flip"] []) (ccheck_word : Cal P w K mg base 3 "check_word" spChkW) :
    ∃ fd, Meth K C "__xor__" f ∧ Fun K "__xor__" "Blend.__xor__" s_Blend___xor__ f fd ∧ Binds K fd ["self", "other"] [] ∧ Gd P w K mg base CX0 6 f fd ["self", "other"] (spW2 C gXor) := by
  refine D.gd (k := 5) sc_Blend___xor__ (fun vs H Q E h => ?_) (fun cdv A outer s H vs Q E rm gd h => ?_)
  · obtain ⟨x, b, v, rfl, _⟩ := h
    rfl
  · obtain ⟨x, b, v, rfl, hx, hok, v0, v1, q⟩ := h
    obtain ⟨dx, hx⟩ := at_fld hx
    have cl := T.cl
    have nW := T.nW
    have nS := T.nS
    have nK := T.nK
    have nF := T.nF
    have rm5 := rm
    obtain ⟨b1, b2, b3, b4, b6, b7, b8⟩ := okN_of hok
    refine ⟨_, (pss_cons (ps_expr (pc ccheck_word rm (by decide) gd rfl (pa_cons (pv 1) (pa_cons (pe_fld (pv 0) rfl) pa_nil))))
    (pss_one (ps_ret (pe_gmake MK FIN rm5 gd rfl T.g_Blend b5 .nil pass_no (pa_cons (pe_fld (pv 0) rfl) (pa_cons (pe_fld (pv 0) rfl) (pa_cons (pe_fld (pv 0) rfl) (pa_cons (pe_op op_xor (pe_fld (pv 0) rfl) (pv 1)) pa_nil)))))))), ?_⟩
    walk_at "go"
    refine ⟨v, b.w, rfl, b1, v0, v1, ?_⟩
    walk_at "go"
    exact mk_bl (okN_mk b1 b2 b3 ⟨b4, b6⟩ (xor_w b1 b7 b8 v0 v1)) fun r H' n h z => q r H' n h z
theorem ok_rand (D : MetAt K C "__rand__" "Blend.__rand__" s_Blend___rand__ ["self", "other"] f) (oA : OpAt K C g .BitAnd) (FA : Gd P w K mg base CX0 6 g fdA ["self", "other"] (spW2 C gAnd)) (bA : Binds K fdA ["self", "other"] []) :
    ∃ fd, Meth K C "__rand__" f ∧ Fun K "__rand__" "Blend.__rand__" s_Blend___rand__ f fd ∧ Binds K fd ["self", "other"] [] ∧ Gd P w K mg base CX0 7 f fd ["self", "other"] (spW2 C gAnd) := by
  refine D.gd (k := 6) sc_Blend___rand__ (fun vs H Q E h => ?_) (fun cdv A outer s H vs Q E rm gd h => ?_)
  · obtain ⟨x, b, v, rfl, _⟩ := h
    rfl
  · obtain ⟨x, b, v, rfl, hx, hok, v0, v1, q⟩ := h
    obtain ⟨dx, hx'⟩ := at_fld hx
    have rmA := rm
    refine ⟨_, (pss_one (ps_ret (pe_op (op_ownI oA FA rmA gd bA pass0) (pv 0) (pv 1)))), ?_⟩
    walk_at "go"
    exact w_own hx' ⟨x, b, v, rfl, hx, hok, v0, v1, q⟩
theorem ok_ror (D : MetAt K C "__ror__" "Blend.__ror__" s_Blend___ror__ ["self", "other"] f) (oA : OpAt K C g .BitOr) (FA : Gd P w K mg base CX0 6 g fdA ["self", "other"] (spW2 C gOr)) (bA : Binds K fdA ["self", "other"] []) :
    ∃ fd, Meth K C "__ror__" f ∧ Fun K "__ror__" "Blend.__ror__" s_Blend___ror__ f fd ∧ Binds K fd ["self", "other"] [] ∧ Gd P w K mg base CX0 7 f fd ["self", "other"] (spW2 C gOr) := by
  refine D.gd (k := 6) sc_Blend___ror__ (fun vs H Q E h => ?_) (fun cdv A outer s H vs Q E rm gd h => ?_)
  · obtain ⟨x, b, v, rfl, _⟩ := h
    rfl
  · obtain ⟨x, b, v, rfl, hx, hok, v0, v1, q⟩ := h
    obtain ⟨dx, hx'⟩ := at_fld hx
    have rmA := rm
    refine ⟨_, (pss_one (ps_ret (pe_op (op_ownI oA FA rmA gd bA pass0) (pv 0) (pv 1)))), ?_⟩
    walk_at "go"
    exact w_own hx' ⟨x, b, v, rfl, hx, hok, v0, v1, q⟩
theorem ok_rxor (D : MetAt K C "__rxor__" "Blend.__rxor__" s_Blend___rxor__ ["self", "other"] f) (oA : OpAt K C g .BitXor) (FA : Gd P w K mg base CX0 6 g fdA ["self", "other"] (spW2 C gXor)) (bA : Binds K fdA ["self", "other"] []) :
    ∃ fd, Meth K C "__rxor__" f ∧ Fun K "__rxor__" "Blend.__rxor__" s_Blend___rxor__ f fd ∧ Binds K fd ["self", "other"] [] ∧ Gd P w K mg base CX0 7 f fd ["self", "other"] (spW2 C gXor) := by
  refine D.gd (k := 6) sc_Blend___rxor__ (fun vs H Q E h => ?_) (fun cdv A outer s H vs Q E rm gd h => ?_)
  · obtain ⟨x, b, v, rfl, _⟩ := h
    rfl
  · obtain ⟨x, b, v, rfl, hx, hok, v0, v1, q⟩ := h
    obtain ⟨dx, hx'⟩ := at_fld hx
    have rmA := rm
    refine ⟨_, (pss_one (ps_ret (pe_op (op_ownI oA FA rmA gd bA pass0) (pv 0) (pv 1)))), ?_⟩
    walk_at "go"
    exact w_own hx' ⟨x, b, v, rfl, hx, hok, v0, v1, q⟩
theorem ok_inv (D : MetAt K C "__invert__" "Blend.__invert__" s_Blend___invert__ ["self"] f) (T : T1 K w mg C aL aP tl) (oA : OpAt K C g .BitXor) (FA : Gd P w K mg base CX0 6 g fdA ["self", "other"] (spW2 C gXor)) (bA : Binds K fdA ["self", "other"] []) (cfull_word : Cal P w K mg base 1 "full_word" spFull) :
    ∃ fd, Meth K C "__invert__" f ∧ Fun K "__invert__" "Blend.__invert__" s_Blend___invert__ f fd ∧ Binds K fd ["self"] [] ∧ Gd P w K mg base CX0 7 f fd ["self"] (spInv C) := by
  refine D.gd (k := 6) sc_Blend___invert__ (fun vs H Q E h => ?_) (fun cdv A outer s H vs Q E rm gd h => ?_)
  · obtain ⟨x, b, rfl, _⟩ := h
    rfl
  · obtain ⟨x, b, rfl, hb, hok, q⟩ := h
    obtain ⟨dx, hx⟩ := at_fld hb
    have cl := T.cl
    have nW := T.nW
    have rmA := rm
    obtain ⟨b1, b2, b3, b4, b6, b7, b8⟩ := okN_of hok
    obtain ⟨n0, _⟩ := wd_fw b1
    refine ⟨_, (pss_one (ps_ret (pe_op (op_ownI oA FA rmA gd bA pass0) (pv 0) (pc cfull_word rm (by decide) gd rfl (pa_cons (pe_fld (pv 0) rfl) pa_nil))))), ?_⟩
    walk_at "go"
    refine ⟨b.w, rfl, b1, ?_⟩
    walk_at "go"
    exact w_own hx ⟨x, b, fw b.w, rfl, hb, hok, n0, Int.le_refl _, q⟩
/-- .. one after another -/
def gThen (b c : Bq) : Bq :=
  let k := Builtin.bitAnd (shf b.k c.s b.w) c.k
  norm b.w (if k = 0 then 0 else b.s + c.s) k (Builtin.bitXor (Builtin.bitAnd (shf b.f c.s b.w) c.k) c.f)
def spThen (C : Addr) : Sp := fun vs H Q _ => ∃ (x y : Addr) (b c : Bq), vs = [.ref x, .ref y] ∧ BlAt C H x b ∧ BlAt C H y c ∧ b.ok = true ∧ c.ok = true ∧ c.w = b.w ∧ okN b.w (if Builtin.bitAnd (shf b.k c.s b.w) c.k = 0 then 0 else b.s + c.s) (Builtin.bitAnd (shf b.k c.s b.w) c.k) (Builtin.bitXor (Builtin.bitAnd (shf b.f c.s b.w) c.k) c.f) = true ∧
  ∀ (r : Addr) (H' : Hp), H r = none → BlAt C H' r (gThen b c) → Same H H' → Q (.ref r) H'
theorem ok_then (D : MetAt K C "then" "Blend.then" s_Blend_then ["self", "c"] f) (T : T1 K w mg C aL aP tl) (MK : Mk K C fT) (FIN : Gd P w K mg base (L2.CX P w) 4 fT fd ["self", "width", "shift", "keep", "flip"] (spBI C c0)) (b5 : Binds K fd ["self", "width", "shift", "keep", "flip"] []) (cshifted : Cal P w K mg base 2 "shifted" spShf) :
    ∃ fd, Meth K C "then" f ∧ Fun K "then" "Blend.then" s_Blend_then f fd ∧ Binds K fd ["self", "c"] [] ∧ Gd P w K mg base CX0 6 f fd ["self", "c"] (spThen C) := by
  refine D.gd (k := 5) sc_Blend_then (fun vs H Q E h => ?_) (fun cdv A outer s H vs Q E rm gd h => ?_)
  · obtain ⟨x, y, b, c, rfl, _⟩ := h
    rfl
  · obtain ⟨x, y, b, c, rfl, hb, hc, hok, hoc, hw, hn, q⟩ := h
    obtain ⟨dx, hx⟩ := at_fld hb
    obtain ⟨dy, hy⟩ := at_fld hc
    have cl := T.cl
    have nW := T.nW
    have nS := T.nS
    have nK := T.nK
    have nF := T.nF
    have rm5 := rm
    obtain ⟨b1, b2, b3, b4, b6, b7, b8⟩ := okN_of hok
    obtain ⟨c1, c2, c3, c4, c6, c7, c8⟩ := okN_of hoc
    obtain ⟨n0, n1, n2, n3⟩ := wd_fw b1
    refine ⟨_, (pss_cons (ps_if (pt_cmpR op_ne (pe_fld (pv 1) rfl) (pe_fld (pv 0) rfl) (nomark _))
      (pss_one ps_never)
      pss_nil)
    (pss_cons (ps_set (i := 2) sc_Blend_then.nd rfl (Or.inl rfl) (pe_op op_and (pc cshifted rm (by decide) gd rfl (pa_cons (pe_fld (pv 0) rfl) (pa_cons (pe_fld (pv 1) rfl) (pa_cons (pe_fld (pv 0) rfl) pa_nil)))) (pe_fld (pv 1) rfl)))
    (pss_cons (ps_set (i := 3) sc_Blend_then.nd rfl (Or.inl rfl) (pe_op op_xor (pe_op op_and (pc cshifted rm (by decide) gd rfl (pa_cons (pe_fld (pv 0) rfl) (pa_cons (pe_fld (pv 1) rfl) (pa_cons (pe_fld (pv 0) rfl) pa_nil)))) (pe_fld (pv 1) rfl)) (pe_fld (pv 1) rfl)))
    (pss_cons (ps_set (i := 4) sc_Blend_then.nd rfl (Or.inl rfl) (pe_ifExp (pt_cmpR op_ne (pv 2) pe_int (nomark _)) (pe_op op_add (pe_fld (pv 0) rfl) (pe_fld (pv 1) rfl)) pe_int))
    (pss_one (ps_ret (pe_gmake MK FIN rm5 gd rfl T.g_Blend b5 .nil pass_no (pa_cons (pe_fld (pv 0) rfl) (pa_cons (pv 4) (pa_cons (pv 2) (pa_cons (pv 3) pa_nil))))))))))), ?_⟩
    walk_at "go"
    rw [show (!decide (V.int c.w = V.int b.w)) = false by rw [hw, decide_eq_true rfl]; rfl]
    refine iteF ?_
    walk_at "go"
    refine ⟨b.k, c.s, b.w, rfl, b1, b4, b6, by omega, ?_⟩
    walk_at "go"
    refine ⟨b.f, c.s, b.w, rfl, b1, b7, b8, by omega, ?_⟩
    walk_at "go"
    unfold gThen at q
    dsimp only at q
    generalize Builtin.bitAnd (shf b.k c.s b.w) c.k = kk at hn q ⊢
    by_cases z : kk = 0
    · rw [show (!decide (V.int kk = V.int 0)) = false by rw [z]; rfl]
      rw [if_pos z] at hn q
      refine iteF ?_
      walk_at "go"
      exact mk_bl hn fun r H' n h z => q r H' n h z
    · rw [show (!decide (V.int kk = V.int 0)) = true by rw [decide_eq_false fun e => z (V.int.inj e)]; rfl]
      rw [if_neg z] at hn q
      refine iteT ?_
      walk_at "go"
      exact mk_bl hn fun r H' n h z => q r H' n h z
/-- moved up or down -/
def spMv (C : Addr) (sg : Int) : Sp := fun vs H Q _ => ∃ (x : Addr) (b : Bq) (n : Int), vs = [.ref x, .int n] ∧ BlAt C H x b ∧ b.ok = true ∧ 0 ≤ n ∧ n ≤ b.w ∧ okN b.w (if Builtin.bitAnd (shf b.k (norm b.w (sg * n) (fw b.w) 0).s b.w) (norm b.w (sg * n) (fw b.w) 0).k = 0 then 0 else b.s + (norm b.w (sg * n) (fw b.w) 0).s) (Builtin.bitAnd (shf b.k (norm b.w (sg * n) (fw b.w) 0).s b.w) (norm b.w (sg * n) (fw b.w) 0).k) (Builtin.bitXor (Builtin.bitAnd (shf b.f (norm b.w (sg * n) (fw b.w) 0).s b.w) (norm b.w (sg * n) (fw b.w) 0).k) (norm b.w (sg * n) (fw b.w) 0).f) = true ∧
  (norm b.w (sg * n) (fw b.w) 0).ok = true ∧ ∀ (r : Addr) (H' : Hp), BlAt C H' r (gThen b (norm b.w (sg * n) (fw b.w) 0)) → Same H H' → Q (.ref r) H'
theorem mk_bl2 {w s : Int} {H : Hp} {Q : VK} {E : XK} (ok : okN w s (fw w) 0 = true) (q : ∀ (r : Addr) (H' : Hp), H r = none → BlAt C H' r (norm w s (fw w) 0) → Same H H' → Q (.ref r) H') : Make C (spBI C c0) (fun x => x :: ([.int w, .int s] ++ [.non, .int 0])) E H Q :=
  make fun x dx H1 n1 h1 s1 => ⟨x, dx, h1, .inr ⟨w, s, fw w, 0, .non, rfl, ok, .inl ⟨rfl, rfl⟩, fun H2 h2 e2 => ⟨rfl, q x H2 n1 h2 fun b o e => e2 b o (s1 b o e) (ne_of_none e n1)⟩⟩⟩
theorem ok_shl (D : MetAt K C "__lshift__" "Blend.__lshift__" s_Blend___lshift__ ["self", "other"] f) (T : T1 K w mg C aL aP tl) (MK : Mk K C fT) (FIN : Gd P w K mg base (L2.CX P w) 4 fT fd ["self", "width", "shift", "keep", "flip"] (spBI C c0)) {d3 : List Value} (v3 : Vals [.non, .int 0] d3) (b3 : Binds K fd ["self", "width", "shift", "keep", "flip"] d3) (ccheck_shift : Cal P w K mg base 2 "check_shift" spChkS)
    (mTh : Meth K C "then" g) (FTh : Gd P w K mg base CX0 6 g fdA ["self", "c"] (spThen C)) (bTh : Binds K fdA ["self", "c"] []) :
    ∃ fd, Meth K C "__lshift__" f ∧ Fun K "__lshift__" "Blend.__lshift__" s_Blend___lshift__ f fd ∧ Binds K fd ["self", "other"] [] ∧ Gd P w K mg base CX0 7 f fd ["self", "other"] (spMv C 1) := by
  refine D.gd (k := 6) sc_Blend___lshift__ (fun vs H Q E h => ?_) (fun cdv A outer s H vs Q E rm gd h => ?_)
  · obtain ⟨x, b, n, rfl, _⟩ := h
    rfl
  · obtain ⟨x, b, n, rfl, hb, hok, n0, n1, hn, hz, q⟩ := h
    obtain ⟨dx, hx⟩ := at_fld hb
    have cl := T.cl
    have nW := T.nW
    have rm5 := rm.mono (show 5 ≤ 6 by decide)
    have rmT := rm
    obtain ⟨b1, b2, b3', b4, b6, b7, b8⟩ := okN_of hok
    obtain ⟨m0, m1, m2, m3⟩ := wd_fw b1
    rw [Int.one_mul] at hn hz q
    refine ⟨_, (pss_cons (ps_expr (pc ccheck_shift rm (by decide) gd rfl (pa_cons (pv 1) (pa_cons pe_int (pa_cons (pe_fld (pv 0) rfl) pa_nil)))))
    (pss_one (ps_ret (pe_gmeth (pv 0) cl mTh FTh rmT gd bTh .nil pass0 (pa_cons (pe_gmake MK FIN rm5 gd rfl T.g_Blend b3 v3 pass_no (pa_cons (pe_fld (pv 0) rfl) (pa_cons (pv 1) pa_nil))) pa_nil))))), ?_⟩
    walk_at "go"
    refine ⟨n, 0, b.w, rfl, n0, n1, ?_⟩
    walk_at "go"
    refine mk_bl2 (okN_mk b1 (by omega) n1 ⟨m0, Int.le_refl _⟩ ⟨Int.le_refl _, m0⟩) fun r1 H1 e1 h1 z1 => ?_
    walk_at "go"
    exact ⟨x, r1, b, _, rfl, hb.same z1, h1, hok, hz, rfl, hn, fun r H' e h z => q r H' h (z1.trans z)⟩
theorem ok_shr (D : MetAt K C "__rshift__" "Blend.__rshift__" s_Blend___rshift__ ["self", "other"] f) (T : T1 K w mg C aL aP tl) (MK : Mk K C fT) (FIN : Gd P w K mg base (L2.CX P w) 4 fT fd ["self", "width", "shift", "keep", "flip"] (spBI C c0)) {d3 : List Value} (v3 : Vals [.non, .int 0] d3) (b3 : Binds K fd ["self", "width", "shift", "keep", "flip"] d3) (ccheck_shift : Cal P w K mg base 2 "check_shift" spChkS)
    (mTh : Meth K C "then" g) (FTh : Gd P w K mg base CX0 6 g fdA ["self", "c"] (spThen C)) (bTh : Binds K fdA ["self", "c"] []) :
    ∃ fd, Meth K C "__rshift__" f ∧ Fun K "__rshift__" "Blend.__rshift__" s_Blend___rshift__ f fd ∧ Binds K fd ["self", "other"] [] ∧ Gd P w K mg base CX0 7 f fd ["self", "other"] (spMv C (-1)) := by
  refine D.gd (k := 6) sc_Blend___rshift__ (fun vs H Q E h => ?_) (fun cdv A outer s H vs Q E rm gd h => ?_)
  · obtain ⟨x, b, n, rfl, _⟩ := h
    rfl
  · obtain ⟨x, b, n, rfl, hb, hok, n0, n1, hn, hz, q⟩ := h
    obtain ⟨dx, hx⟩ := at_fld hb
    have cl := T.cl
    have nW := T.nW
    have rm5 := rm.mono (show 5 ≤ 6 by decide)
    have rmT := rm
    obtain ⟨b1, b2, b3', b4, b6, b7, b8⟩ := okN_of hok
    obtain ⟨m0, m1, m2, m3⟩ := wd_fw b1
    rw [Int.neg_one_mul] at hn hz q
    refine ⟨_, (pss_cons (ps_expr (pc ccheck_shift rm (by decide) gd rfl (pa_cons (pv 1) (pa_cons pe_int (pa_cons (pe_fld (pv 0) rfl) pa_nil)))))
    (pss_one (ps_ret (pe_gmeth (pv 0) cl mTh FTh rmT gd bTh .nil pass0 (pa_cons (pe_gmake MK FIN rm5 gd rfl T.g_Blend b3 v3 pass_no (pa_cons (pe_fld (pv 0) rfl) (pa_cons (pe_un un_neg (pv 1)) pa_nil))) pa_nil))))), ?_⟩
    walk_at "go"
    refine ⟨n, 0, b.w, rfl, n0, n1, ?_⟩
    walk_at "go"
    refine mk_bl2 (okN_mk b1 (by omega) (by omega) ⟨m0, Int.le_refl _⟩ ⟨Int.le_refl _, m0⟩) fun r1 H1 e1 h1 z1 => ?_
    walk_at "go"
    exact ⟨x, r1, b, _, rfl, hb.same z1, h1, hok, hz, rfl, hn, fun r H' e h z => q r H' h (z1.trans z)⟩
/-- is_constant -/
def spIsC (C : Addr) : Sp := fun vs H Q _ => ∃ (x : Addr) (b : Bq), vs = [.ref x] ∧ BlAt C H x b ∧ Q (.bl (decide (b.k = 0))) H
theorem ok_isc {fa : Addr} (F : Fun K "is_constant" "Blend.is_constant" s_Blend_is_constant fa fd) (T : T1 K w mg C aL aP tl) : Gd P w K mg base (L2.CX P w) 1 fa fd ["self"] (spIsC C) := by
  refine gdF (k := 0) F sc_Blend_is_constant (fun vs H Q E h => ?_) (fun cdv A outer s H vs Q E rm gd h => ?_)
  · obtain ⟨x, b, rfl, _⟩ := h
    rfl
  · obtain ⟨x, b, rfl, hb, q⟩ := h
    obtain ⟨dx, hx⟩ := at_fld hb
    have cl := T.cl
    have nK := T.nK
    refine ⟨_, (pss_one (ps_ret (pe_cmpR op_eq (pe_fld (pv 0) rfl) pe_int (nomark _)))), ?_⟩
    walk_at "go"
    rw [dI']
    exact q
/-- constant -/
def spCst (C : Addr) : Sp := fun vs H Q _ => ∃ (n v : Int), vs = [.ref C, .int n, .int v] ∧ wd n = true ∧ 0 ≤ v ∧ v ≤ fw n ∧ ∀ (r : Addr) (H' : Hp), H r = none → BlAt C H' r (norm n 0 0 v) → Same H H' → Q (.ref r) H'
theorem ok_cst {fa : Addr} {fdc : FuncData} (F : Fun K "constant" "Blend.constant" s_Blend_constant fa fdc) (T : T1 K w mg C aL aP tl) (MK : Mk K C fT) (FIN : Gd P w K mg base (L2.CX P w) 4 fT fd ["self", "width", "shift", "keep", "flip"] (spBI C c0)) (b5 : Binds K fd ["self", "width", "shift", "keep", "flip"] []) :
    Gd P w K mg base (L2.CX P w) 6 fa fdc ["cls", "width", "value"] (spCst C) := by
  refine gdF (k := 5) F sc_Blend_constant (fun vs H Q E h => ?_) (fun cdv A outer s H vs Q E rm gd h => ?_)
  · obtain ⟨n, v, rfl, _⟩ := h
    rfl
  · obtain ⟨n, v, rfl, hn, v0, v1, q⟩ := h
    have rm5 := rm
    obtain ⟨m0, m1, m2, m3⟩ := wd_fw hn
    refine ⟨_, (pss_one (ps_ret (pe_gmakeV MK FIN rm5 gd (pv 0) b5 .nil pass_no (pa_cons (pv 1) (pa_cons pe_int (pa_cons pe_int (pa_cons (pv 2) pa_nil))))))), ?_⟩
    walk_at "go"
    refine ⟨rfl, ?_⟩
    walk_at "go"
    exact mk_bl (okN_mk hn (by omega) (by omega) ⟨Int.le_refl _, m0⟩ ⟨v0, v1⟩) fun r H' n h z => q r H' n h z
end
end
end Law

set_option Elab.async false
set_option linter.all false
set_option maxRecDepth 100000
set_option maxHeartbeats 4000000
namespace Law
open PySem PySem.Spec PySem.Calls PyProof.Rows L2 KG LamX
local macro_rules | `(tactic| walk_at "1") => `(tactic| first
  | (with_reducible refine w_var rfl ?_) | (with_reducible refine w_c ?_) | (with_reducible refine w_seq ?_) | (with_reducible refine w_asg ?_) | (with_reducible refine w_gname ?_) | (with_reducible refine w_op ?_) | (with_reducible refine w_un ?_)
  | (with_reducible refine w_add ?_) | (with_reducible refine w_sub ?_) | ((with_reducible refine' w_mod ?mo ?_); (case mo => first | assumption | decide | omega)) | (with_reducible refine w_and ?_) | (with_reducible refine w_or ?_) | (with_reducible refine w_xor ?_)
  | (with_reducible refine w_gt ?_) | (with_reducible refine w_lt ?_) | (with_reducible refine w_ge ?_) | (with_reducible refine w_le ?_) | ((with_reducible refine' w_eq ?sc ?_); (case sc => rfl)) | ((with_reducible refine' w_ne ?sc ?_); (case sc => rfl))
  | (with_reducible refine w_ret ?_) | (with_reducible refine w_next ?_) | (with_reducible refine w_ifs ?_) | (with_reducible refine w_ifx ?_) | (with_reducible refine w_test ?_) | (with_reducible refine w_tB ?_) | (with_reducible refine w_bl ?_)
  | ((with_reducible refine' w_ixL ?ixh ?ixa ?_); (case ixh => first | exact SqL.of (by assumption)); (case ixa => first | rfl | skip)) | ((with_reducible refine' w_ixT ?ixh ?ixa ?_); (case ixh => first | exact SqT.of (by assumption)); (case ixa => first | rfl | skip))
  | ((with_reducible refine' w_fld ?_)) | ((with_reducible refine' fld ?fh ?fc ?fn ?fl ?_); (case fh => assumption); (case fc => assumption); (case fn => assumption); (case fl => rfl)) | (with_reducible refine w_sfld ?_)
  | (with_reducible refine Or.inl ⟨_, rfl, ?_⟩) | (with_reducible refine w_gsub ?_) | (with_reducible refine w_andV ?_) | (with_reducible refine w_orV ?_)
  | (with_reducible refine w_nil ?_) | (with_reducible refine w_cons ?_) | (with_reducible refine w_tup ?_) | (with_reducible refine w_lst ?_) | (with_reducible refine w_and2 ?_) | (with_reducible refine w_or2 ?_) | (with_reducible refine w_not ?_) | (with_reducible refine w_cb ?_) | (with_reducible refine w_call ?_) | (with_reducible refine w_par ?_) | (with_reducible refine w_pnil ?_) | (with_reducible refine w_pcons ?_) | (with_reducible refine w_dput ?_) | (with_reducible refine w_dget ?_) | (with_reducible refine w_for ?_) | (with_reducible refine w_itup ?_) | (with_reducible refine w_ilist ?_) | (with_reducible refine w_irng ?_) | (with_reducible refine w_meth ?_) | (with_reducible refine w_make ?_) | (with_reducible refine w_makeK ?_) | (with_reducible refine w_methK ?_) | ((with_reducible refine' mth ?mh ?ml ?_); (case mh => assumption); (case ml => rfl)) | (with_reducible refine w_drop ?_))
local macro_rules | `(tactic| walk_at "go") => `(tactic| ((repeat (walk_at "1")); try dsimp only))
local macro_rules | `(tactic| walk_at "1") => `(tactic| first
  | (with_reducible refine w_notV ?_) | (with_reducible refine w_callK ?_) | (with_reducible refine w_lc ?_) | (with_reducible refine w_chain ?_) | (with_reducible refine w_neg ?_) | ((with_reducible refine' w_shr ?mo ?_); (case mo => first | assumption | omega)))
abbrev s_Blend_sources : Stmt := inClass (top 15) 14
theorem sc_Blend_sources : GScope ["self", "j"] ["self"] (defScope s_Blend_sources) := ⟨rfl, rfl, rfl, by decide +kernel, rfl, by decide +kernel, by decide +kernel⟩
theorem bd_Blend_sources : BindOk "sources" "Blend.sources" s_Blend_sources ["self"] := fun _ _ _ _ _ _ us hl => match us, hl with | [_], _ => rfl
/-! ### sources -/
def srcs (b : Bq) (n : Nat) : List (Int × Int) := ((List.range n).filter fun j : Nat => decide (Builtin.bitAnd (b.k / 2 ^ j) 1 = 1)).map fun j : Nat => ((j : Int), (j : Int) - b.s)
def PrA (H : Hp) : List V → List (Int × Int) → Prop
  | [], [] => True
  | v :: vs, p :: ps => (∃ t, v = .ref t ∧ H t = some (.tup [.int p.1, .int p.2])) ∧ PrA H vs ps
  | _, _ => False
theorem PrA.same {H H' : Hp} (s : Same H H') : ∀ {vs : List V} {ps : List (Int × Int)}, PrA H vs ps → PrA H' vs ps
  | [], [], _ => trivial
  | _ :: _, _ :: _, h => let ⟨⟨t, e, h1⟩, h2⟩ := h; ⟨⟨t, e, s _ _ h1⟩, PrA.same s h2⟩
  | [], _ :: _, h => h.elim
  | _ :: _, [], h => h.elim
theorem PrA.snoc {H : Hp} {t : Addr} {p : Int × Int} (h1 : H t = some (.tup [.int p.1, .int p.2])) : ∀ {vs : List V} {ps : List (Int × Int)}, PrA H vs ps → PrA H (vs ++ [.ref t]) (ps ++ [p])
  | [], [], _ => ⟨⟨t, rfl, h1⟩, trivial⟩
  | _ :: _, _ :: _, h => ⟨h.1, PrA.snoc h1 h.2⟩
  | [], _ :: _, h => h.elim
  | _ :: _, [], h => h.elim
theorem PrA.length {H : Hp} : ∀ {vs : List V} {ps : List (Int × Int)}, PrA H vs ps → vs.length = ps.length
  | [], [], _ => rfl
  | _ :: _, _ :: _, h => congrArg (· + 1) (PrA.length h.2)
  | [], _ :: _, h => h.elim
  | _ :: _, [], h => h.elim
theorem srcs_succ (b : Bq) (n : Nat) : srcs b (n + 1) = srcs b n ++ if Builtin.bitAnd (b.k / 2 ^ n) 1 = 1 then [((n : Int), (n : Int) - b.s)] else [] := by
  unfold srcs
  rw [List.range_succ, List.filter_append, List.map_append]
  by_cases h : Builtin.bitAnd (b.k / 2 ^ n) 1 = 1 <;> simp [h]
theorem srcs_len (b : Bq) (n : Nat) : (srcs b n).length ≤ n := by
  unfold srcs
  rw [List.length_map]
  exact Nat.le_trans (List.length_filter_le _ _) (by rw [List.length_range]; exact Nat.le_refl _)
def spSrc (C : Addr) : SpG := fun vs H Q _ => ∃ (x : Addr) (b : Bq), vs = [.ref x] ∧ BlAt C H x b ∧ b.ok = true ∧ ∀ (outs : List V) (H' : Hp), PrA H' outs (srcs b b.w.toNat) → Same H H' → Q outs H'
theorem ok_src {P : Program} {w : World} {K : PySem.W.Frag} {mg : Str → Option Value} {base : Heap} {C aL aP f : Addr} {tl : Int → Addr} (D : MetAt K C "sources" "Blend.sources" s_Blend_sources ["self"] f) (T : T1 K w mg C aL aP tl) (B : B1 mg) :
    ∃ fd, Meth K C "sources" f ∧ Binds K fd ["self"] [] ∧ GFn P w K mg base 3 f fd ["self"] (spSrc C) := by
  obtain ⟨fd, a, F, bd⟩ := D.ex
  obtain ⟨oc, od, kV, doc, pm, an, cdv, ct, osl, rfl, found, code⟩ := F.ex
  refine ⟨_, a, bd, gfn_of (N := ["self", "j"]) found code sc_Blend_sources (fun vs H Q E h => ?_) (fun A outer s H vs Q E pn rm h => ?_)⟩
  · obtain ⟨x, b, rfl, _⟩ := h
    rfl
  · obtain ⟨x, b, rfl, hb, hok, q⟩ := h
    obtain ⟨dx, hx⟩ := at_fld hb
    have cl := T.cl
    have nW := T.nW
    have nS := T.nS
    have nK := T.nK
    obtain ⟨b1, b2, b3, b4, b6, b7, b8⟩ := okN_of hok
    obtain ⟨f0, f1, f2, f3⟩ := wd_fw b1
    refine ⟨_, (gss_cons (gs_for owns_gcx rfl (pi_range1 rfl B.g_range (pa_cons (pe_fld (pv 0) rfl) pa_nil)) (pg_name (i := 1) sc_Blend_sources.nd rfl (Or.inl rfl)) (gss_cons (gs_if (pt_cmpR op_eq (pe_op op_and (pe_op op_shr (pe_fld (pv 0) rfl) (pv 1)) pe_int) pe_int (nomark _)) (gss_cons (gs_yield (pe_tup (pa_cons (pv 1) (pa_cons (pe_op op_sub (pv 1) (pe_fld (pv 0) rfl)) pa_nil))))
        gss_nil) gss_nil)
      gss_nil))
    gss_nil), ?_⟩
    show tGFor _ _ _ _ _ _ _
    unfold tGFor
    walk_at "go"
    refine over_r (by omega) (by omega) ?_
    refine gfor_range (fun i ys σ H' => (∃ o, σ = [some (.ref x), o]) ∧ PrA H' ys (srcs b i) ∧ Same H H') ⟨⟨none, rfl⟩, trivial, fun _ _ z => z⟩ (fun i ys σ H' hi p => ?_) fun ys σ H' p => q ys H' p.2.1 p.2.2
    obtain ⟨⟨o, rfl⟩, pr, sm⟩ := p
    have hx1 := sm _ _ hx
    show tGIf _ _ _ _ _ _ _
    unfold tGIf
    walk_at "go"
    have e0 : (0 + (i : Int)).toNat = i := by omega
    rw [e0, dI']
    have nx : ∀ (ys' : List V) (H6 : Hp), PrA H6 ys' (srcs b (i + 1)) → Same H H6 → ((∃ o, [some (V.ref x), some (V.int (0 + (i : Int)))] = [some (V.ref x), o]) ∧ PrA H6 ys' (srcs b (i + 1)) ∧ Same H H6) := fun ys' H6 p z => ⟨⟨_, rfl⟩, p, z⟩
    have le := srcs_len b i
    rw [srcs_succ]
    rw [srcs_succ] at nx
    by_cases z : Builtin.bitAnd (b.k / 2 ^ i) 1 = 1
    · rw [decide_eq_true z, if_pos rfl]
      rw [if_pos z] at nx ⊢
      show tGYield _ _ _ _ _
      unfold tGYield
      refine ⟨?_, ?_⟩
      · rw [pr.length]
        exact Nat.lt_of_le_of_lt (Nat.le_trans le (Nat.le_of_lt hi)) (Nat.lt_of_le_of_lt (show b.w.toNat ≤ 32 by omega) (by decide))
      · walk_at "go"
        refine new (show 2 ≤ sizeLine by decide) fun t H6 n6 h6 z6 => ?_
        refine nx _ H6 (PrA.snoc ?_ (pr.same z6)) (sm.trans z6)
        rw [h6, Int.zero_add]
    · rw [decide_eq_false z, if_neg Bool.false_ne_true]
      rw [if_neg z, List.append_nil] at nx ⊢
      exact nx _ H' pr sm
end Law

set_option Elab.async false
set_option linter.all false
set_option maxRecDepth 100000
set_option maxHeartbeats 4000000
namespace Law
open PySem PySem.Spec PySem.Calls PyProof.Rows L2 KG LamX
local macro_rules | `(tactic| walk_at "1") => `(tactic| first
  | (with_reducible refine w_var rfl ?_) | (with_reducible refine w_c ?_) | (with_reducible refine w_seq ?_) | (with_reducible refine w_asg ?_) | (with_reducible refine w_gname ?_) | (with_reducible refine w_op ?_) | (with_reducible refine w_un ?_)
  | (with_reducible refine w_add ?_) | (with_reducible refine w_sub ?_) | ((with_reducible refine' w_mod ?mo ?_); (case mo => first | assumption | decide | omega)) | (with_reducible refine w_and ?_) | (with_reducible refine w_or ?_) | (with_reducible refine w_xor ?_)
  | (with_reducible refine w_gt ?_) | (with_reducible refine w_lt ?_) | (with_reducible refine w_ge ?_) | (with_reducible refine w_le ?_) | ((with_reducible refine' w_eq ?sc ?_); (case sc => rfl)) | ((with_reducible refine' w_ne ?sc ?_); (case sc => rfl))
  | (with_reducible refine w_ret ?_) | (with_reducible refine w_next ?_) | (with_reducible refine w_ifs ?_) | (with_reducible refine w_ifx ?_) | (with_reducible refine w_test ?_) | (with_reducible refine w_tB ?_) | (with_reducible refine w_bl ?_)
  | ((with_reducible refine' w_ixL ?ixh ?ixa ?_); (case ixh => first | exact SqL.of (by assumption)); (case ixa => first | rfl | skip)) | ((with_reducible refine' w_ixT ?ixh ?ixa ?_); (case ixh => first | exact SqT.of (by assumption)); (case ixa => first | rfl | skip))
  | ((with_reducible refine' w_fld ?_)) | ((with_reducible refine' fld ?fh ?fc ?fn ?fl ?_); (case fh => assumption); (case fc => assumption); (case fn => assumption); (case fl => rfl)) | (with_reducible refine w_sfld ?_)
  | (with_reducible refine Or.inl ⟨_, rfl, ?_⟩) | (with_reducible refine w_gsub ?_) | (with_reducible refine w_andV ?_) | (with_reducible refine w_orV ?_)
  | (with_reducible refine w_nil ?_) | (with_reducible refine w_cons ?_) | (with_reducible refine w_tup ?_) | (with_reducible refine w_lst ?_) | (with_reducible refine w_and2 ?_) | (with_reducible refine w_or2 ?_) | (with_reducible refine w_not ?_) | (with_reducible refine w_cb ?_) | (with_reducible refine w_call ?_) | (with_reducible refine w_par ?_) | (with_reducible refine w_pnil ?_) | (with_reducible refine w_pcons ?_) | (with_reducible refine w_dput ?_) | (with_reducible refine w_dget ?_) | (with_reducible refine w_for ?_) | (with_reducible refine w_itup ?_) | (with_reducible refine w_ilist ?_) | (with_reducible refine w_irng ?_) | (with_reducible refine w_meth ?_) | (with_reducible refine w_make ?_) | (with_reducible refine w_makeK ?_) | (with_reducible refine w_methK ?_) | ((with_reducible refine' mth ?mh ?ml ?_); (case mh => assumption); (case ml => rfl)) | (with_reducible refine w_drop ?_))
local macro_rules | `(tactic| walk_at "go") => `(tactic| ((repeat (walk_at "1")); try dsimp only))
local macro_rules | `(tactic| walk_at "1") => `(tactic| first
  | (with_reducible refine w_notV ?_) | (with_reducible refine w_callK ?_) | (with_reducible refine w_lc ?_) | (with_reducible refine w_chain ?_) | (with_reducible refine w_neg ?_) | ((with_reducible refine' w_shr ?mo ?_); (case mo => first | assumption | omega)))
/-- what is tracked stays, but at p -/
def Kp (p : Addr) (H H' : Hp) : Prop := ∀ b o, H b = some o → b ≠ p → H' b = some o
/-- the pen at p -/
def PenC (n : Nat) (p l : Addr) (cells : List Int) (H : Hp) : Prop := cells.length ≤ 63 ∧ H l = some (.lst (cells.map V.int)) ∧ ∃ (a : Nat) (r : Int), a ≤ n ∧ H p = some (.lst [.ref l, .int a, .int r])
def spDraw : Sp := fun vs H Q _ => ∃ (p l : Addr) (cells : List Int) (n : Nat) (m : Int), vs = [.ref p, .int m] ∧ PenC n p l cells H ∧ n ≤ 100000 ∧ 0 < m ∧ m < 1073741824 ∧
  ∀ (d : Int) (H' : Hp), 0 ≤ d → d < m → PenC (n + 1) p l cells H' → Kp p H H' → Q (.int d) H'
structure Bi (mg : Str → Option Value) : Prop where
  g_int : mg "int" = none
  g_len : mg "len" = none
  g_abs : mg "abs" = none
  g_list : mg "list" = none
  g_repr : mg "repr" = none
  g_range : mg "range" = none
  g_str : mg "str" = none
theorem dp_ints {K : PySem.W.Frag} {H : Hp} : ∀ ns : List Int, DpAll K H (ns.map V.int) (ns.map PyData.int)
  | [] => .nil
  | n :: ns => .cons (.int n) (dp_ints ns)
theorem sh_ints (ns : List Int) : SeqAt.shaped (.list (ns.map PyData.int)) = true := by
  have h1 : ∀ ns : List Int, PyData.canLayAll0 (ns.map PyData.int) = true := fun ns => by
    induction ns with
    | nil => simp [PyData.canLayAll0]
    | cons a as ih => simp only [List.map_cons, PyData.canLayAll0, PyData.canLay0, ih, Bool.and_self]
  have h2 : ∀ ns : List Int, PyData.depthAll (ns.map PyData.int) = 0 := fun ns => by
    induction ns with
    | nil => simp [PyData.depthAll]
    | cons a as ih => simp only [List.map_cons, PyData.depthAll, PyData.depth, ih, Nat.max_self]
  unfold SeqAt.shaped
  simp only [PyData.canLay0, PyData.depth, h1, h2]
  decide
theorem at_int {cells : List Int} {i : Int} (h0 : 0 ≤ i) (h1 : i < (cells.length : Int)) : ∃ c : Int, atI (cells.map V.int) i = some (.int c) := by
  have h : i.toNat < cells.length := by omega
  refine ⟨cells[i.toNat], at_of (j := i.toNat) (by omega) ?_⟩
  rw [List.getElem?_map, List.getElem?_eq_getElem h]
  rfl
section
variable {P : Program} {w : World} {K : PySem.W.Frag} {mg : Str → Option Value} {base : Heap}
theorem ok_draw (D : DefAt K mg "_law_draw" s__law_draw ["_law_pen_here", "_law_many"]) (B : Bi mg) : Cal P w K mg base 1 "_law_draw" spDraw := by
  refine D.cal sc__law_draw (fun vs H Q E h => ?_) (fun f cdv A outer s H vs Q E rm gd h => ?_)
  · obtain ⟨p, l, cells, n, m, rfl, _⟩ := h
    rfl
  · obtain ⟨p, l, cells, n, m, rfl, ⟨hc, hl, a, r, ha, hp⟩, hn, hm, hm2, k⟩ := h
    have hpl : p ≠ l := ne_of hp hl (by
      intro z
      cases cells with
      | nil => cases z
      | cons c cs => injection z with z; injection z with z; cases z)
    refine ⟨_, (pss_cons (ps_if (pt_cmpR op_gt (pe_ix ix_list (pv 0) pe_int (fun _ _ => rfl)) pe_int (nomark _))
      (pss_cons (ps_set (i := 2) sc__law_draw.nd rfl (Or.inl rfl) (pe_op op_mod (pe_callTy call_int1 (by rfl) B.g_int (by decide +kernel) (pa_cons (pe_ix ix_list (pv 0) pe_int (fun _ _ => rfl)) pa_nil)) (pv 1)))
      (pss_cons (ps_asg (pe_op op_fdiv (pe_callTy call_int1 (by rfl) B.g_int (by decide +kernel) (pa_cons (pe_ix ix_list (pv 0) pe_int (fun _ _ => rfl)) pa_nil)) (pv 1)) (pg_sub (pv 0) pe_int set_list))
      (pss_one (ps_ret (pv 2)))))
      pss_nil)
    (pss_cons (ps_set (i := 3) sc__law_draw.nd rfl (Or.inl rfl) (pe_ix ix_list (pv 0) pe_int (fun _ _ => rfl)))
    (pss_cons (ps_asg (pe_op op_add (pv 3) pe_int) (pg_sub (pv 0) pe_int set_list))
    (pss_cons (ps_set (i := 4) sc__law_draw.nd rfl (Or.inl rfl) (pe_op op_add (pe_op op_mul pe_int (pv 3)) pe_int))
    (pss_mid (ps_if (pt_cmpR (op_neD rm.units) (pe_ix ix_list (pv 0) pe_int (fun _ _ => rfl)) (pe_lst pa_nil) (nomark _))
      (pss_one (ps_set (i := 4) sc__law_draw.nd rfl (Or.inl rfl) (pe_ix ix_list (pe_ix ix_list (pv 0) pe_int (fun _ _ => rfl)) (pe_op op_mod (pe_callTy call_int1 (by rfl) B.g_int (by decide +kernel) (pa_cons (pv 3) pa_nil)) (pe_callB call_len_seq (by rfl) B.g_len (by decide +kernel) (pa_cons (pe_ix ix_list (pv 0) pe_int (fun _ _ => rfl)) pa_nil))) (fun _ _ => rfl))))
      pss_nil)
    (pss_mid (ps_if (PW.pt (pw_and (pt_cmpR op_lt (pv 3) (pe_callB call_len_seq (by rfl) B.g_len (by decide +kernel) (pa_cons (pe_ix ix_list (pv 0) pe_int (fun _ _ => rfl)) pa_nil)) (nomark _)) (pw_and1 (pt_cmpR op_ge (pe_callB call_abs (by rfl) B.g_abs (by decide +kernel) (pa_cons (pv 4) pa_nil)) (pe_op op_pow pe_int pe_int) (nomark _)))))
      (pss_cons (ps_set (i := 5) sc__law_draw.nd rfl (Or.inl rfl) (pe_op op_add (pe_op op_mul pe_int (pe_callB call_abs (by rfl) B.g_abs (by decide +kernel) (pa_cons (pv 4) pa_nil))) (pe_callTy call_int1 (by rfl) B.g_int (by decide +kernel) (pa_cons (pe_cmpR op_lt (pv 4) pe_int (nomark _)) pa_nil))))
      (pss_cons (ps_asg (pe_op op_fdiv (pv 5) (pv 1)) (pg_sub (pv 0) pe_int set_list))
      (pss_one (ps_ret (pe_op op_mod (pe_callTy call_int1 (by rfl) B.g_int (by decide +kernel) (pa_cons (pv 5) pa_nil)) (pv 1))))))
      pss_nil)
    (pss_cons (ps_set (i := 6) sc__law_draw.nd rfl (Or.inl rfl) (pe_op op_mod (pe_op op_pow (pe_callTy call_int1 (by rfl) B.g_int (by decide +kernel) (pa_cons (pe_op op_add (pe_op op_add (pe_op op_mod (pe_callTy call_int1 (by rfl) B.g_int (by decide +kernel) (pa_cons (pv 4) pa_nil)) pe_int) (pe_op op_mul pe_int (pv 3))) pe_int) pa_nil)) pe_int) pe_int))
    (pss_cons (ps_set (i := 6) sc__law_draw.nd rfl (Or.inl rfl) (pe_op op_mod (pe_op op_pow (pe_callTy call_int1 (by rfl) B.g_int (by decide +kernel) (pa_cons (pe_op op_add (pe_op op_add (pe_op op_mul (pv 6) (pe_op op_add (pv 3) pe_int)) (pe_op op_mul (pe_op op_mul pe_int (pv 3)) (pv 3))) pe_int) pa_nil)) pe_int) pe_int))
    (pss_one (ps_ret (pe_op op_mod (pe_callTy call_int1 (by rfl) B.g_int (by decide +kernel) (pa_cons (pe_op op_fdiv (pv 6) pe_int) pa_nil)) (pv 1)))))))))))), ?_⟩
    walk_at "go"
    refine ite2 (fun h0 => ?_) (fun h0 => ?_)
    · walk_at "go"
      refine w_fdiv ⟨hm, hm2⟩ ?_
      walk_at "go"
      refine w_setG hp rfl rfl fun H1 hp1 e1 => ?_
      walk_at "go"
      refine k _ _ (Int.emod_nonneg _ (by omega)) (Int.emod_lt_of_pos _ hm) ⟨hc, (e1 l hpl.symm).trans hl, a, r / m, by omega, hp1⟩ fun b o e nb => (e1 b nb).trans e
    · walk_at "go"
      refine w_setG hp rfl rfl fun H1 hp1 e1 => ?_
      have hl1 : H1 l = some (.lst (cells.map V.int)) := (e1 l hpl.symm).trans hl
      have hp1 : H1 p = some (.lst [.ref l, .int ((a + 1 : Nat) : Int), .int r]) := hp1
      walk_at "go"
      refine w_mul (.inl ⟨by omega, by omega⟩) ?_
      walk_at "go"
      refine ⟨fun σ' H' => Same H1 H' ∧ ∃ c : Int, σ' = [some (.ref p), some (.int m), none, some (.int a), some (.int c), none, none], ?_, ?_⟩
      · walk_at "go"
        refine new (by decide) fun z H2 nz hz s2 => ?_
        have hp2 := s2 _ _ hp1
        have hl2 := s2 _ _ hl1
        refine ⟨.list (cells.map .int), .list [], .lst (SqL.of hl2) (dp_ints cells), .lst (SqL.of hz) .nil, sh_ints cells, by decide +kernel, ?_⟩
        walk_at "go"
        refine ite2 (fun hne => ?_) (fun _ => ?_)
        · have pos : 0 < cells.length := by
            cases cells with
            | nil => exact absurd hne (by decide)
            | cons c cs => exact Nat.succ_pos _
          walk_at "go"
          refine ⟨l, cells.map .int, rfl, .inl (SqL.of hl2), ?_⟩
          rw [List.length_map]
          walk_at "go"
          have b0 : 0 ≤ (a : Int) % (cells.length : Int) := Int.emod_nonneg _ (by omega)
          have b1 : (a : Int) % (cells.length : Int) < (cells.length : Int) := Int.emod_lt_of_pos _ (by omega)
          obtain ⟨c, hc'⟩ := at_int (cells := cells) b0 b1
          refine w_ixL (SqL.of hl2) hc' ?_
          walk_at "go"
          exact ⟨s2, c, rfl⟩
        · walk_at "go"
          exact ⟨s2, _, rfl⟩
      · rintro σ' H2 ⟨s2, c, rfl⟩
        have hp2 := s2 _ _ hp1
        have hl2 := s2 _ _ hl1
        have fin : ∀ (d : Int) (rr : Int) (H' : Hp), 0 ≤ d → d < m → H' p = some (.lst [.ref l, .int ((a + 1 : Nat) : Int), .int rr]) → (∀ b, b ≠ p → H' b = H2 b) → Q (V.int d) H' := fun d rr H' d0 d1 hp' e' =>
          k d H' d0 d1 ⟨hc, (e' l hpl.symm).trans hl2, a + 1, rr, by omega, hp'⟩ fun b o e nb => (e' b nb).trans (s2 _ _ ((e1 b nb).trans e))
        have absok : ∀ c : Int, 0 ≤ (if c < 0 then -c else c) := fun c => by split <;> omega
        refine ⟨fun σ' H' => H' = H2 ∧ σ' = [some (.ref p), some (.int m), none, some (.int a), some (.int c), none, none], ?_, ?_⟩
        · have big : ∀ (b : Int) (D : Ends), (∀ (d : Int) (H' : Hp), D.rt (.int d) H' = Q (.int d) H') → True := fun _ _ _ => trivial
          walk_at "go"
          refine ⟨l, cells.map .int, rfl, .inl (SqL.of hl2), ?_⟩
          rw [List.length_map]
          walk_at "go"
          refine ite2 (fun h1 => ?_) (fun h1 => ?_)
          · walk_at "go"
            refine ⟨c, rfl, ?_⟩
            walk_at "go"
            refine w_pow ⟨by decide, by decide, by decide⟩ ?_
            walk_at "go"
            refine ite2 (fun h2 => ?_) (fun h2 => ?_)
            · walk_at "go"
              refine ⟨c, rfl, ?_⟩
              refine w_mul (.inl ⟨by decide, by decide⟩) ?_
              walk_at "go"
              refine .inr ⟨_, rfl, ?_⟩
              walk_at "go"
              refine w_fdiv ⟨hm, hm2⟩ ?_
              walk_at "go"
              refine w_setG hp2 rfl rfl fun H3 hp3 e3 => ?_
              walk_at "go"
              exact fin _ _ _ (Int.emod_nonneg _ (by omega)) (Int.emod_lt_of_pos _ hm) hp3 e3
            · walk_at "go"
              exact ⟨rfl, rfl⟩
          · walk_at "go"
            refine ite2 (fun h2 => absurd h2 (by decide)) (fun h2 => ?_)
            walk_at "go"
            exact ⟨rfl, rfl⟩
        · rintro σ' H' ⟨rfl, rfl⟩
          have an : 0 ≤ (a : Int) := Int.natCast_nonneg _
          have a2 : (a : Int) ≤ 100000 := by omega
          walk_at "go"
          refine w_mul (.inl ⟨by decide, by decide⟩) ?_
          walk_at "go"
          have q0 : 0 ≤ c % 2147483579 := Int.emod_nonneg _ (by decide)
          have q1 : c % 2147483579 < 2147483579 := Int.emod_lt_of_pos _ (by decide)
          refine w_pow ⟨by decide, by decide, by omega⟩ ?_
          walk_at "go"
          generalize hx : (c % 2147483579 + 57131 * (a : Int) + 211) ^ Int.toNat 5 % 2147483629 = x
          have x0 : 0 ≤ x := by rw [← hx]; exact Int.emod_nonneg _ (by decide)
          have x1 : x < 2147483629 := by rw [← hx]; exact Int.emod_lt_of_pos _ (by decide)
          refine w_mul (.inl ⟨by omega, by omega⟩) ?_
          walk_at "go"
          refine w_mul (.inl ⟨by decide, by decide⟩) ?_
          walk_at "go"
          refine w_mul (.inr ⟨by omega, by omega⟩) ?_
          walk_at "go"
          have y0 : 0 ≤ x * ((a : Int) + 64007) := Int.mul_nonneg x0 (by omega)
          have y1 : x * ((a : Int) + 64007) ≤ 2147483629 * 164007 := Int.mul_le_mul (by omega) (by omega) (by omega) (by decide)
          have z0 : 0 ≤ 91009 * (a : Int) * (a : Int) := Int.mul_nonneg (by omega) an
          have z1 : 91009 * (a : Int) * (a : Int) ≤ 91009 * 100000 * 100000 := Int.mul_le_mul (by omega) a2 an (by decide)
          refine w_pow ⟨by decide, by decide, by omega⟩ ?_
          walk_at "go"
          refine w_fdiv ⟨by decide, by decide⟩ ?_
          walk_at "go"
          exact fin _ r _ (Int.emod_nonneg _ (by omega)) (Int.emod_lt_of_pos _ hm) hp2 fun _ _ => rfl
theorem cut_ints (ns : List Int) (lo hi : Option Int) : ∃ ms : List Int, cutV (ns.map V.int) lo hi = ms.map V.int ∧ ms.length ≤ ns.length := by
  unfold cutV
  refine ⟨(ns.drop (HT.sIx (ns.map V.int).length 0 lo)).take (HT.sIx (ns.map V.int).length (ns.map V.int).length hi - HT.sIx (ns.map V.int).length 0 lo), ?_, ?_⟩
  · rw [List.map_take, List.map_drop]
  · rw [List.length_take, List.length_drop]
    omega
def spPen (K : PySem.W.Frag) : Sp := fun vs H Q _ => ∃ (a : Addr) (ns : List Int), vs = [.ref a] ∧ SqL K H a (ns.map V.int) ∧ ns.length ≤ 63 ∧
  ∀ (p l : Addr) (cells : List Int) (H' : Hp), H p = none → PenC 0 p l cells H' → Same H H' → Q (.ref p) H'
theorem ok_pen (D : DefAt K mg "_law_pen" s__law_pen ["_law_script"]) (B : Bi mg) : Cal P w K mg base 1 "_law_pen" (spPen K) := by
  refine D.cal sc__law_pen (fun vs H Q E h => ?_) (fun f cdv A outer s H vs Q E rm gd h => ?_)
  · obtain ⟨a, ns, rfl, _⟩ := h
    rfl
  · obtain ⟨a, ns, rfl, hs, hl, k⟩ := h
    obtain ⟨ms, em, lm⟩ := cut_ints ns none (some 63)
    refine ⟨_, (pss_one (ps_ret (pe_lst (pa_cons (pe_callTy call_list_of (by rfl) B.g_list (by decide +kernel) (pa_cons (pe_slice sl_list (pv 0) po_none (po_some pe_int)) pa_nil)) (pa_cons pe_int (pa_cons pe_int pa_nil)))))), ?_⟩
    walk_at "go"
    refine ⟨_, rfl, _, rfl, a, ns.map .int, rfl, hs, fun p1 n1 => ?_⟩
    rw [em]
    have s1 : Same H (upd H p1 (.lst (ms.map V.int))) := fun b u e => by rw [upd_ne (ne_of_none e n1)]; exact e
    walk_at "go"
    refine ⟨p1, ms.map .int, rfl, .inl (SqL.of upd_same), fun l nl => ?_⟩
    have s2 : Same (upd H p1 (.lst (ms.map V.int))) (upd (upd H p1 (.lst (ms.map V.int))) l (.lst (ms.map V.int))) := fun b u e => by rw [upd_ne (ne_of_none e nl)]; exact e
    walk_at "go"
    refine new (by show 3 ≤ sizeLine; decide) fun p H3 np h3 s3 => ?_
    exact k p l ms H3 (s1.free (s2.free np)) ⟨by omega, s3 _ _ upd_same, 0, 0, Nat.le_refl _, h3⟩ (s1.trans (s2.trans s3))
end
theorem bi_of {mg : Str → Option Value} (B : B1 mg) : Bi mg := ⟨B.g_int, B.g_len, B.g_abs, B.g_list, B.g_repr, B.g_range, B.g_str⟩
theorem PenC.same {n : Nat} {p l : Addr} {cells : List Int} {H H' : Hp} (h : PenC n p l cells H) (s : Same H H') : PenC n p l cells H' := by
  obtain ⟨a, b, c, d, e, f⟩ := h
  exact ⟨a, s _ _ b, c, d, e, s _ _ f⟩
theorem PenC.mono {n m : Nat} {p l : Addr} {cells : List Int} {H : Hp} (h : PenC n p l cells H) (k : n ≤ m) : PenC m p l cells H := by
  obtain ⟨a, b, c, d, e, f⟩ := h
  exact ⟨a, b, c, d, Nat.le_trans e k, f⟩
theorem PenC.at_p {n : Nat} {p l : Addr} {cells : List Int} {H : Hp} (h : PenC n p l cells H) : ∃ xs, H p = some (.lst xs) ∧ xs.length = 3 := by
  obtain ⟨_, _, a, r, _, z⟩ := h
  exact ⟨_, z, rfl⟩
theorem Kp.of_same {p : Addr} {H H' : Hp} (s : Same H H') : Kp p H H' := fun b o e _ => s b o e
theorem Kp.trans {p : Addr} {H H1 H2 : Hp} (a : Kp p H H1) (b : Kp p H1 H2) : Kp p H H2 := fun c o e n => b c o (a c o e n) n
def spWord : Sp := fun vs H Q _ => ∃ (p l : Addr) (cells : List Int) (n : Nat) (w : Int), vs = [.ref p, .int w] ∧ PenC n p l cells H ∧ n + 6 ≤ 100000 ∧ wd w = true ∧
  ∀ (v : Int) (H' : Hp), 0 ≤ v → v ≤ fw w → PenC (n + 6) p l cells H' → Kp p H H' → Q (.int v) H'
theorem valD {n : Int} (h : wd n = true) : valV [((.inl 8 : Key), V.int 255), (.inl 16, .int 65535), (.inl 32, .int 4294967295)] (.inl n) = some (.int (fw n)) := by
  rcases wd_of h with rfl | rfl | rfl <;> rfl
theorem fl_nat {w : Int} (h : wd w = true) {v : Int} (v0 : 0 ≤ v) (v1 : v ≤ fw w) : ∃ n : Nat, v = (n : Int) ∧ n < 2 ^ w.toNat := by
  obtain ⟨n, rfl⟩ := Int.eq_ofNat_of_zero_le v0
  exact ⟨n, rfl, (fw_pow h).mp v1⟩
def spTop : Sp := fun vs H Q _ => ∃ w : Int, vs = [.int w] ∧ wd w = true ∧ ∀ H', Same H H' → Q (.int (fw w)) H'
def spMoved : Sp := fun vs H Q _ => ∃ (w s : Int) (v : Nat), vs = [.int w, .int v, .int s] ∧ wd w = true ∧ -w ≤ s ∧ s ≤ w ∧ v < 2 ^ w.toNat ∧ ∀ H', Same H H' → Q (.int (gN w.toNat s v : Nat)) H'
section
variable {P : Program} {w : World} {K : PySem.W.Frag} {mg : Str → Option Value} {base : Heap}
theorem six_at {a b c d e f i : Int} (h0 : 0 ≤ i) (h1 : i < 6) : ∃ v, atI [.int a, .int b, .int c, .int d, .int e, .int f] i = some (V.int v) ∧ (v = a ∨ v = b ∨ v = c ∨ v = d ∨ v = e ∨ v = f) := by
  have h : i = 0 ∨ i = 1 ∨ i = 2 ∨ i = 3 ∨ i = 4 ∨ i = 5 := by omega
  rcases h with rfl | rfl | rfl | rfl | rfl | rfl
  · exact ⟨a, rfl, .inl rfl⟩
  · exact ⟨b, rfl, .inr (.inl rfl)⟩
  · exact ⟨c, rfl, .inr (.inr (.inl rfl))⟩
  · exact ⟨d, rfl, .inr (.inr (.inr (.inl rfl)))⟩
  · exact ⟨e, rfl, .inr (.inr (.inr (.inr (.inl rfl))))⟩
  · exact ⟨f, rfl, .inr (.inr (.inr (.inr (.inr rfl))))⟩
theorem ok_word (D : DefAt K mg "_law_word" s__law_word ["_law_pen_here", "_law_width"]) (B : B1 mg) (c_law_draw : Cal P w K mg base 1 "_law_draw" spDraw) : Cal P w K mg base 2 "_law_word" spWord := by
  refine D.cal sc__law_word (fun vs H Q E h => ?_) (fun f cdv A outer s H vs Q E rm gd h => ?_)
  · obtain ⟨p, l, cells, n, wi, rfl, _⟩ := h
    rfl
  · obtain ⟨p, l, cells, n, wi, rfl, pen, hn, hw, q⟩ := h
    have hu := hu_of rm
    have h3 := wd_of hw
    obtain ⟨f0, f1, f2, f3⟩ := wd_fw hw
    refine ⟨_, (pss_cons (ps_set (i := 2) sc__law_word.nd rfl (Or.inl rfl) (pe_dget hu (pe_disp (pps_cons pe_int pe_int (pps_cons pe_int pe_int (pps_cons pe_int pe_int pps_nil))) (by rfl) (by rfl) (fun z => by cases z) (by decide)) (pv 1) (fun _ _ => rfl)))
    (pss_cons (ps_set (i := 3) sc__law_word.nd rfl (Or.inl rfl) pe_int)
    (pss_cons (ps_for PassesOwn.never rfl (pi_range1 rfl B.g_range (pa_cons (pe_op op_fdiv (pv 1) pe_int) pa_nil)) (pg_name (i := 4) sc__law_word.nd rfl (Or.inl rfl))
      (pss_one (ps_set (i := 3) sc__law_word.nd rfl (Or.inl rfl) (pe_op op_add (pe_op op_mul pe_int (pv 3)) (pc c_law_draw rm (by decide) gd rfl (pa_cons (pv 0) (pa_cons pe_int pa_nil)))))))
    (pss_cons (ps_set (i := 5) sc__law_word.nd rfl (Or.inl rfl) (pe_op op_shl pe_int (pc c_law_draw rm (by decide) gd rfl (pa_cons (pv 0) (pa_cons (pv 1) pa_nil)))))
    (pss_one (ps_ret (pe_ix ix_list (pe_lst (pa_cons pe_int (pa_cons (pv 2) (pa_cons (pv 5) (pa_cons (pe_op op_sub (pv 2) (pv 5)) (pa_cons (pv 3) (pa_cons (pv 3) pa_nil))))))) (pc c_law_draw rm (by decide) gd rfl (pa_cons (pv 0) (pa_cons pe_int pa_nil))) (fun _ _ => rfl)))))))), ?_⟩
    walk_at "go"
    refine w_disp fun d1 H1 n1 h1 s1 => ?_
    walk_at "go"
    refine dall [(.inl 8, .int 255), (.inl 16, .int 65535), (.inl 32, .int 4294967295)] h1 rfl (by decide) rfl fun H2 h2 e2 => ?_
    have s2 : Same H H2 := fun b o e => (e2 b (ne_of_none e n1)).trans (s1 b o e)
    walk_at "go"
    refine dget (v := .int (fw wi)) (.inl wi) h2 (by rcases h3 with rfl | rfl | rfl <;> rfl) ?_
    walk_at "go"
    refine w_fdiv ⟨by decide, by decide⟩ ?_
    walk_at "go"
    have lim : wi / 8 ≤ 4 ∧ 0 ≤ wi / 8 := by omega
    have pen2 := pen.same s2
    refine over_r (by omega) (by omega) (for_range (n := (wi / 8).toNat) (fun i σ H' => PenC (n + i) p l cells H' ∧ Kp p H2 H' ∧ ∃ (a : Int) (v4 v5 : Option V), 0 ≤ a ∧ a < 256 ^ i ∧ σ = [some (.ref p), some (.int wi), some (.int (fw wi)), some (.int a), v4, v5])
      ⟨pen2, fun _ _ e _ => e, 0, none, none, Int.le_refl _, by decide, rfl⟩ ?_ ?_)
    · rintro i σ H3 hi ⟨pen3, k3, a, v4, v5, a0, a1, rfl⟩
      walk_at "go"
      refine w_mul (.inl ⟨by decide, by decide⟩) ?_
      walk_at "go"
      refine ⟨p, l, cells, n + i, 256, rfl, pen3, by omega, by decide, by decide, fun d H4 d0 d1 pen4 k4 => ?_⟩
      walk_at "go"
      refine ⟨pen4, k3.trans k4, 256 * a + d, _, _, by omega, ?_, rfl⟩
      have e : (256 : Int) ^ (i + 1) = 256 ^ i * 256 := Int.pow_succ _ _
      rw [e]
      generalize (256 : Int) ^ i = X at *
      omega
    · rintro σ H3 ⟨pen3, k3, a, v4, v5, a0, a1, rfl⟩
      have a2 : a ≤ fw wi := by
        have e : (256 : Int) ^ (wi / 8).toNat = fw wi + 1 := by rcases h3 with rfl | rfl | rfl <;> decide
        omega
      walk_at "go"
      refine ⟨p, l, cells, n + (wi / 8).toNat, wi, rfl, pen3, by omega, by omega, by omega, fun d H4 d0 d1 pen4 k4 => ?_⟩
      refine w_shl ⟨by omega, by omega, by decide⟩ ?_
      walk_at "go"
      refine new (show 6 ≤ sizeLine by decide) fun t H5 nt ht s5 => ?_
      walk_at "go"
      refine ⟨p, l, cells, n + (wi / 8).toNat + 1, 6, rfl, pen4.same s5, by omega, by decide, by decide, fun j H6 j0 j1 pen6 k6 => ?_⟩
      have tp : t ≠ p := by
        obtain ⟨xs, hp, hl⟩ := (pen4.same s5).at_p
        refine ne_of ht hp fun z => ?_
        injection z with z
        rw [← z] at hl
        cases hl
      obtain ⟨v, ev, hv⟩ := six_at (a := 0) (b := fw wi) (c := 1 * 2 ^ d.toNat) (d := fw wi - 1 * 2 ^ d.toNat) (e := a) (f := a) j0 j1
      refine w_ixL (SqL.of (k6 _ _ ht tp)) ev ?_
      have o1 : 0 ≤ (1 : Int) * 2 ^ d.toNat ∧ (1 : Int) * 2 ^ d.toNat ≤ fw wi := by
        have hd : d.toNat < wi.toNat := by omega
        have m : ∀ w : Nat, (w = 8 ∨ w = 16 ∨ w = 32) → ∀ e, e < w → (0 : Int) ≤ 1 * 2 ^ e ∧ (1 : Int) * 2 ^ e ≤ 1 * 2 ^ w - 1 := by
          intro w hw
          rcases hw with rfl | rfl | rfl <;> decide +kernel
        exact m wi.toNat (by omega) d.toNat hd
      have b2 : 0 ≤ v ∧ v ≤ fw wi := by
        rcases hv with rfl | rfl | rfl | rfl | rfl | rfl
        · exact ⟨Int.le_refl _, f0⟩
        · exact ⟨f0, Int.le_refl _⟩
        · exact o1
        · omega
        · exact ⟨a0, a2⟩
        · exact ⟨a0, a2⟩
      have kk : Kp p H H6 := (Kp.of_same s2).trans (k3.trans (k4.trans ((Kp.of_same s5).trans k6)))
      exact q v H6 b2.1 b2.2 (pen6.mono (by omega)) kk
theorem ok_top (D : DefAt K mg "_law_top" s__law_top ["_law_width"]) : Cal P w K mg base 1 "_law_top" spTop := by
  refine D.cal sc__law_top (fun vs H Q E h => ?_) (fun f cdv A outer s H vs Q E rm gd h => ?_)
  · obtain ⟨wi, rfl, _⟩ := h
    rfl
  · obtain ⟨wi, rfl, hw, q⟩ := h
    have hu := hu_of rm
    refine ⟨_, (pss_one (ps_ret (pe_dget hu (pe_disp (pps_cons pe_int pe_int (pps_cons pe_int pe_int (pps_cons pe_int pe_int pps_nil))) (by rfl) (by rfl) (fun z => by cases z) (by decide)) (pv 0) (fun _ _ => rfl)))), ?_⟩
    walk_at "go"
    refine w_disp fun d1 H1 n1 h1 s1 => ?_
    walk_at "go"
    refine dall [(.inl 8, .int 255), (.inl 16, .int 65535), (.inl 32, .int 4294967295)] h1 rfl (by decide) rfl fun H2 h2 e2 => ?_
    walk_at "go"
    refine dget (v := .int (fw wi)) (.inl wi) h2 (valD hw) ?_
    exact q H2 fun b o e => (e2 b (ne_of_none e n1)).trans (s1 b o e)
theorem ok_moved (D : DefAt K mg "_law_moved" s__law_moved ["_law_width", "_law_value", "_law_step_here"]) (c_law_top : Cal P w K mg base 1 "_law_top" spTop) : Cal P w K mg base 2 "_law_moved" spMoved := by
  refine D.cal sc__law_moved (fun vs H Q E h => ?_) (fun f cdv A outer s H vs Q E rm gd h => ?_)
  · obtain ⟨wi, st, v, rfl, _⟩ := h
    rfl
  · obtain ⟨wi, st, v, rfl, hw, s0, s1, hv, q⟩ := h
    obtain ⟨f0, f1, f2, f3⟩ := wd_fw hw
    have es := shf_nat (s := st) hv
    have vb : ((v : Nat) : Int).natAbs < 2 ^ 64 := by
      have := (fw_pow hw).mpr hv
      omega
    unfold shf at es
    refine ⟨_, (pss_cons (ps_if (pt_cmpR op_lt (pv 2) pe_int (nomark _))
      (pss_one (ps_ret (pe_op op_shr (pv 1) (pe_op op_sub pe_int (pv 2)))))
      pss_nil)
    (pss_one (ps_ret (pe_op op_and (pe_op op_shl (pv 1) (pv 2)) (pc c_law_top rm (by decide) gd rfl (pa_cons (pv 0) pa_nil)))))), ?_⟩
    walk_at "go"
    by_cases h : st < 0
    · rw [decide_eq_true h]
      rw [if_pos h] at es
      refine iteT ?_
      walk_at "go"
      rw [Int.zero_sub, es]
      exact q H (Same.refl _)
    · rw [decide_eq_false h]
      rw [if_neg h] at es
      refine iteF ?_
      walk_at "go"
      refine w_shl ⟨by omega, by omega, vb⟩ ?_
      walk_at "go"
      refine ⟨wi, rfl, hw, fun H1 z1 => ?_⟩
      walk_at "go"
      rw [es]
      exact q H1 z1
end
end Law

set_option Elab.async false
set_option linter.all false
set_option maxRecDepth 100000
set_option maxHeartbeats 4000000
namespace Law
open PySem PySem.Spec PySem.Calls PyProof.Rows L2 KG LamX
local macro_rules | `(tactic| walk_at "1") => `(tactic| first
  | (with_reducible refine w_var rfl ?_) | (with_reducible refine w_c ?_) | (with_reducible refine w_seq ?_) | (with_reducible refine w_asg ?_) | (with_reducible refine w_gname ?_) | (with_reducible refine w_op ?_) | (with_reducible refine w_un ?_)
  | (with_reducible refine w_add ?_) | (with_reducible refine w_sub ?_) | ((with_reducible refine' w_mod ?mo ?_); (case mo => first | assumption | decide | omega)) | (with_reducible refine w_and ?_) | (with_reducible refine w_or ?_) | (with_reducible refine w_xor ?_)
  | (with_reducible refine w_gt ?_) | (with_reducible refine w_lt ?_) | (with_reducible refine w_ge ?_) | (with_reducible refine w_le ?_) | ((with_reducible refine' w_eq ?sc ?_); (case sc => rfl)) | ((with_reducible refine' w_ne ?sc ?_); (case sc => rfl))
  | (with_reducible refine w_ret ?_) | (with_reducible refine w_next ?_) | (with_reducible refine w_ifs ?_) | (with_reducible refine w_ifx ?_) | (with_reducible refine w_test ?_) | (with_reducible refine w_tB ?_) | (with_reducible refine w_bl ?_)
  | ((with_reducible refine' w_ixL ?ixh ?ixa ?_); (case ixh => first | exact SqL.of (by assumption)); (case ixa => first | rfl | skip)) | ((with_reducible refine' w_ixT ?ixh ?ixa ?_); (case ixh => first | exact SqT.of (by assumption)); (case ixa => first | rfl | skip))
  | ((with_reducible refine' w_fld ?_)) | ((with_reducible refine' fld ?fh ?fc ?fn ?fl ?_); (case fh => assumption); (case fc => assumption); (case fn => assumption); (case fl => rfl)) | (with_reducible refine w_sfld ?_)
  | (with_reducible refine Or.inl ⟨_, rfl, ?_⟩) | (with_reducible refine w_gsub ?_) | (with_reducible refine w_andV ?_) | (with_reducible refine w_orV ?_)
  | (with_reducible refine w_nil ?_) | (with_reducible refine w_cons ?_) | (with_reducible refine w_tup ?_) | (with_reducible refine w_lst ?_) | (with_reducible refine w_and2 ?_) | (with_reducible refine w_or2 ?_) | (with_reducible refine w_not ?_) | (with_reducible refine w_cb ?_) | (with_reducible refine w_call ?_) | (with_reducible refine w_par ?_) | (with_reducible refine w_pnil ?_) | (with_reducible refine w_pcons ?_) | (with_reducible refine w_dput ?_) | (with_reducible refine w_dget ?_) | (with_reducible refine w_for ?_) | (with_reducible refine w_itup ?_) | (with_reducible refine w_ilist ?_) | (with_reducible refine w_irng ?_) | (with_reducible refine w_meth ?_) | (with_reducible refine w_make ?_) | (with_reducible refine w_makeK ?_) | (with_reducible refine w_methK ?_) | ((with_reducible refine' mth ?mh ?ml ?_); (case mh => assumption); (case ml => rfl)) | (with_reducible refine w_drop ?_))
local macro_rules | `(tactic| walk_at "go") => `(tactic| ((repeat (walk_at "1")); try dsimp only))
local macro_rules | `(tactic| walk_at "1") => `(tactic| first
  | (with_reducible refine w_notV ?_) | (with_reducible refine w_callK ?_) | (with_reducible refine w_lc ?_) | (with_reducible refine w_chain ?_) | (with_reducible refine w_neg ?_) | ((with_reducible refine' w_shr ?mo ?_); (case mo => first | assumption | omega)))
/-! ### the law's own steps -/
inductive Stp where
  | beg (s : Int) (k f : Nat)
  | and (n : Nat)
  | or (n : Nat)
  | xor (n : Nat)
  | inv
  | mv (s : Int)
def Stp.ok (w : Int) : Stp → Prop
  | .beg s k f => NumOk w s k f
  | .and n => n < 2 ^ w.toNat
  | .or n => n < 2 ^ w.toNat
  | .xor n => n < 2 ^ w.toNat
  | .inv => True
  | .mv s => -w ≤ s ∧ s ≤ w
def Stp.go (w : Int) (v : Nat) : Stp → Nat
  | .beg s k f => (gN w.toNat s v &&& k) ^^^ f
  | .and n => v &&& n
  | .or n => v ||| n
  | .xor n => v ^^^ n
  | .inv => v ^^^ fullN w.toNat
  | .mv s => gN w.toNat s v
/-- three numbers in a tuple -/
def TupN (H : Hp) (t : Addr) (s : Int) (k f : Nat) : Prop := H t = some (.tup [.int s, .int (k : Nat), .int (f : Nat)])
def StA (H : Hp) (v : V) : Stp → Prop
  | .beg s k f => ∃ t t3, v = .ref t ∧ H t = some (.tup [.str "begin", .ref t3]) ∧ TupN H t3 s k f
  | .and n => ∃ t, v = .ref t ∧ H t = some (.tup [.str "&", .int (n : Nat)])
  | .or n => ∃ t, v = .ref t ∧ H t = some (.tup [.str "|", .int (n : Nat)])
  | .xor n => ∃ t, v = .ref t ∧ H t = some (.tup [.str "^", .int (n : Nat)])
  | .inv => ∃ t, v = .ref t ∧ H t = some (.tup [.str "~", .int 0])
  | .mv s => ∃ t, v = .ref t ∧ H t = some (.tup [.str "move", .int s])
theorem StA.same {H H' : Hp} (z : Same H H') {v : V} : ∀ {x : Stp}, StA H v x → StA H' v x
  | .beg _ _ _, h => let ⟨t, t3, e, h1, h2⟩ := h; ⟨t, t3, e, z _ _ h1, z _ _ h2⟩
  | .and _, h => let ⟨t, e, h1⟩ := h; ⟨t, e, z _ _ h1⟩
  | .or _, h => let ⟨t, e, h1⟩ := h; ⟨t, e, z _ _ h1⟩
  | .xor _, h => let ⟨t, e, h1⟩ := h; ⟨t, e, z _ _ h1⟩
  | .inv, h => let ⟨t, e, h1⟩ := h; ⟨t, e, z _ _ h1⟩
  | .mv _, h => let ⟨t, e, h1⟩ := h; ⟨t, e, z _ _ h1⟩
theorem Stp.go_lt {w : Int} {v : Nat} (hv : v < 2 ^ w.toNat) : ∀ {x : Stp}, x.ok w → x.go w v < 2 ^ w.toNat
  | .beg _ _ _, h => Nat.xor_lt_two_pow (Nat.lt_of_le_of_lt Nat.and_le_right h.k) h.f
  | .and _, h => Nat.lt_of_le_of_lt Nat.and_le_left hv
  | .or _, h => Nat.or_lt_two_pow hv h
  | .xor _, h => Nat.xor_lt_two_pow hv h
  | .inv, _ => Nat.xor_lt_two_pow hv (full_lt _)
  | .mv _, _ => gN_lt hv
def doneN (w : Int) (l : List Stp) (v : Nat) : Nat := l.foldl (fun v x => x.go w v) v
theorem done_lt {w : Int} : ∀ {l : List Stp} {v : Nat}, v < 2 ^ w.toNat → (∀ x ∈ l, x.ok w) → doneN w l v < 2 ^ w.toNat
  | [], _, hv, _ => hv
  | _ :: l, _, hv, h => done_lt (l := l) (Stp.go_lt hv (h _ (.head _))) fun y m => h y (.tail _ m)
theorem iteN {c : Bool} {A B : Prop} (h : c = false) (q : B) : if c = true then A else B := by rw [h]; exact q
theorem iteY {c : Bool} {A B : Prop} (h : c = true) (q : A) : if c = true then A else B := by rw [h]; exact q
def StL (H : Hp) (xs : List V) (l : List Stp) : Prop := xs.length = l.length ∧ ∀ (i : Nat) (y : V), xs[i]? = some y → ∃ x, l[i]? = some x ∧ StA H y x
theorem StL.same {H H' : Hp} (z : Same H H') {xs : List V} {l : List Stp} (h : StL H xs l) : StL H' xs l := ⟨h.1, fun i y e => let ⟨x, e1, e2⟩ := h.2 i y e; ⟨x, e1, e2.same z⟩⟩
theorem done_succ {w : Int} {l : List Stp} {v i : Nat} {x : Stp} (h : l[i]? = some x) : doneN w (l.take (i + 1)) v = x.go w (doneN w (l.take i) v) := by
  unfold doneN
  rw [List.take_add_one, h, List.foldl_append]
  rfl
def spDone : Sp := fun vs H Q _ => ∃ (w : Int) (L : Addr) (xs : List V) (l : List Stp) (v : Nat), vs = [.int w, .ref L, .int v] ∧ wd w = true ∧ H L = some (.lst xs) ∧ StL H xs l ∧ (∀ x ∈ l, x.ok w) ∧ v < 2 ^ w.toNat ∧ ∀ H', Same H H' → Q (.int (doneN w l v : Nat)) H'
section
variable {P : Program} {w : World} {K : PySem.W.Frag} {mg : Str → Option Value} {base : Heap}
theorem ok_done (D : DefAt K mg "_law_done" s__law_done ["_law_width", "_law_steps", "_law_value"]) (c_law_top : Cal P w K mg base 1 "_law_top" spTop) (c_law_moved : Cal P w K mg base 2 "_law_moved" spMoved) : Cal P w K mg base 3 "_law_done" spDone := by
  refine D.cal sc__law_done (fun vs H Q E h => ?_) (fun f cdv A outer s H vs Q E rm gd h => ?_)
  · obtain ⟨wi, L, xs, l, v, rfl, _⟩ := h
    rfl
  · obtain ⟨wi, L, xs, l, v, rfl, hw, hL, hS, ho, hv, q⟩ := h
    refine ⟨_, (pss_cons (ps_for PassesOwn.never rfl (pi_list (pv 1)) (pg_tup rfl (pgs_cons (pg_name (i := 3) sc__law_done.nd rfl (Or.inl rfl)) (pgs_cons (pg_name (i := 4) sc__law_done.nd rfl (Or.inl rfl)) pgs_nil)))
      (pss_one (ps_if (pt_cmpR op_eq (pv 3) pe_str (nomark _))
        (pss_cons (ps_asg (pv 4) (pg_tup rfl (pgs_cons (pg_name (i := 5) sc__law_done.nd rfl (Or.inl rfl)) (pgs_cons (pg_name (i := 6) sc__law_done.nd rfl (Or.inl rfl)) (pgs_cons (pg_name (i := 7) sc__law_done.nd rfl (Or.inl rfl)) pgs_nil)))))
        (pss_one (ps_set (i := 2) sc__law_done.nd rfl (Or.inl rfl) (pe_op op_xor (pe_op op_and (pc c_law_moved rm (by decide) gd rfl (pa_cons (pv 0) (pa_cons (pv 2) (pa_cons (pv 5) pa_nil)))) (pv 6)) (pv 7)))))
        (pss_one (ps_if (pt_cmpR op_eq (pv 3) pe_str (nomark _))
          (pss_one (ps_set (i := 2) sc__law_done.nd rfl (Or.inl rfl) (pe_op op_and (pv 2) (pv 4))))
          (pss_one (ps_if (pt_cmpR op_eq (pv 3) pe_str (nomark _))
            (pss_one (ps_set (i := 2) sc__law_done.nd rfl (Or.inl rfl) (pe_op op_or (pv 2) (pv 4))))
            (pss_one (ps_if (pt_cmpR op_eq (pv 3) pe_str (nomark _))
              (pss_one (ps_set (i := 2) sc__law_done.nd rfl (Or.inl rfl) (pe_op op_xor (pv 2) (pv 4))))
              (pss_one (ps_if (pt_cmpR op_eq (pv 3) pe_str (nomark _))
                (pss_one (ps_set (i := 2) sc__law_done.nd rfl (Or.inl rfl) (pe_op op_xor (pv 2) (pc c_law_top rm (by decide) gd rfl (pa_cons (pv 0) pa_nil)))))
                (pss_one (ps_set (i := 2) sc__law_done.nd rfl (Or.inl rfl) (pc c_law_moved rm (by decide) gd rfl (pa_cons (pv 0) (pa_cons (pv 2) (pa_cons (pv 4) pa_nil)))))))))))))))))
    (pss_one (ps_ret (pv 2)))), ?_⟩
    walk_at "go"
    refine ⟨L, rfl, ⟨xs, SqL.of hL⟩, ?_⟩
    refine for_list (K := K) (xs := xs) (fun i σ H' => ∃ a b c d e, σ = [some (.int wi), some (.ref L), some (.int (doneN wi (l.take i) v : Nat)), a, b, c, d, e] ∧ Same H H') ⟨_, _, _, _, _, rfl, Same.refl _⟩ (fun i σ H' _ p => ?_) (fun i y σ H' hy p => ?_) fun σ H' p => ?_
    · obtain ⟨_, _, _, _, _, _, z⟩ := p
      exact SqL.of (z _ _ hL)
    · obtain ⟨a, b, c, d, e, rfl, z⟩ := p
      obtain ⟨x, hx, hA⟩ := hS.2 i y hy
      have hA := hA.same z
      have hok := ho x (List.mem_of_getElem? hx)
      have hlt : doneN wi (l.take i) v < 2 ^ wi.toNat := done_lt hv fun y m => ho y (List.mem_of_mem_take m)
      rw [done_succ hx]
      generalize doneN wi (l.take i) v = u at hlt ⊢
      have ub := (fw_pow hw).mpr hlt
      have f3 := wd_fw hw
      have fin : ∀ (n : Int) (g : Nat) (a b c d e : Option V) (H1 : Hp), n = (g : Int) → Same H' H1 → ∃ a' b' c' d' e', [some (V.int wi), some (V.ref L), some (V.int n), a, b, c, d, e] = [some (V.int wi), some (V.ref L), some (V.int (g : Nat)), a', b', c', d', e'] ∧ Same H H1 := fun n g a b c d e H1 h z1 => by
        subst h
        exact ⟨_, _, _, _, _, rfl, z.trans z1⟩
      cases x with
      | and m =>
        obtain ⟨t, rfl, ht⟩ := hA
        refine ⟨t, _, rfl, SqT.of ht, rfl, _, _, rfl, _, _, rfl, rfl, ?_⟩
        walk_at "go"
        refine iteN (by decide +kernel) ?_
        walk_at "go"
        refine iteY (by decide +kernel) ?_
        walk_at "go"
        refine fin _ _ _ _ _ _ _ H' ?_ (Same.refl _)
        rw [PyProof.Rows.bitAnd_pp (Int.natCast_nonneg _) (Int.natCast_nonneg _)]
        rfl
      | or m =>
        obtain ⟨t, rfl, ht⟩ := hA
        refine ⟨t, _, rfl, SqT.of ht, rfl, _, _, rfl, _, _, rfl, rfl, ?_⟩
        walk_at "go"
        refine iteN (by decide +kernel) ?_
        walk_at "go"
        refine iteN (by decide +kernel) ?_
        walk_at "go"
        refine iteY (by decide +kernel) ?_
        walk_at "go"
        refine fin _ _ _ _ _ _ _ H' ?_ (Same.refl _)
        rw [Bits.bitOr_pp (Int.natCast_nonneg _) (Int.natCast_nonneg _)]
        rfl
      | xor m =>
        obtain ⟨t, rfl, ht⟩ := hA
        refine ⟨t, _, rfl, SqT.of ht, rfl, _, _, rfl, _, _, rfl, rfl, ?_⟩
        walk_at "go"
        refine iteN (by decide +kernel) ?_
        walk_at "go"
        refine iteN (by decide +kernel) ?_
        walk_at "go"
        refine iteN (by decide +kernel) ?_
        walk_at "go"
        refine iteY (by decide +kernel) ?_
        walk_at "go"
        refine fin _ _ _ _ _ _ _ H' ?_ (Same.refl _)
        rw [Bits.bitXor_pp (Int.natCast_nonneg _) (Int.natCast_nonneg _)]
        rfl
      | inv =>
        obtain ⟨t, rfl, ht⟩ := hA
        refine ⟨t, _, rfl, SqT.of ht, rfl, _, _, rfl, _, _, rfl, rfl, ?_⟩
        walk_at "go"
        refine iteN (by decide +kernel) ?_
        walk_at "go"
        refine iteN (by decide +kernel) ?_
        walk_at "go"
        refine iteN (by decide +kernel) ?_
        walk_at "go"
        refine iteN (by decide +kernel) ?_
        walk_at "go"
        refine iteY (by decide +kernel) ?_
        walk_at "go"
        refine ⟨wi, rfl, hw, fun H1 z1 => ?_⟩
        walk_at "go"
        refine fin _ _ _ _ _ _ _ H1 ?_ z1
        rw [fw_nat hw, Bits.bitXor_pp (Int.natCast_nonneg _) (Int.natCast_nonneg _)]
        rfl
      | mv sh =>
        obtain ⟨t, rfl, ht⟩ := hA
        refine ⟨t, _, rfl, SqT.of ht, rfl, _, _, rfl, _, _, rfl, rfl, ?_⟩
        walk_at "go"
        refine iteN (by decide +kernel) ?_
        walk_at "go"
        refine iteN (by decide +kernel) ?_
        walk_at "go"
        refine iteN (by decide +kernel) ?_
        walk_at "go"
        refine iteN (by decide +kernel) ?_
        walk_at "go"
        refine iteN (by decide +kernel) ?_
        walk_at "go"
        refine ⟨wi, sh, u, rfl, hw, hok.1, hok.2, hlt, fun H1 z1 => ?_⟩
        walk_at "go"
        exact fin _ _ _ _ _ _ _ H1 rfl z1
      | beg sh kk ff =>
        obtain ⟨t, t3, rfl, ht, h3⟩ := hA
        refine ⟨t, _, rfl, SqT.of ht, rfl, _, _, rfl, _, _, rfl, rfl, ?_⟩
        walk_at "go"
        refine iteY (by decide +kernel) ?_
        walk_at "go"
        refine ⟨t3, _, rfl, SqT.of h3, rfl, _, _, rfl, _, _, rfl, _, _, rfl, rfl, ?_⟩
        walk_at "go"
        refine ⟨wi, sh, u, rfl, hw, hok.lo, hok.hi, hlt, fun H1 z1 => ?_⟩
        walk_at "go"
        refine fin _ _ _ _ _ _ _ H1 ?_ z1
        rw [PyProof.Rows.bitAnd_pp (Int.natCast_nonneg _) (Int.natCast_nonneg _), Bits.bitXor_pp (Int.natCast_nonneg _) (Int.natCast_nonneg _)]
        rfl
    · obtain ⟨a, b, c, d, e, rfl, z⟩ := p
      rw [hS.1, List.take_length]
      walk_at "go"
      exact q H' z
end
end Law

set_option Elab.async false
set_option linter.all false
set_option maxRecDepth 100000
set_option maxHeartbeats 4000000
namespace Law
open PySem PySem.Spec PySem.Calls PyProof.Rows L2 KG LamX
local macro_rules | `(tactic| walk_at "1") => `(tactic| first
  | (with_reducible refine w_var rfl ?_) | (with_reducible refine w_c ?_) | (with_reducible refine w_seq ?_) | (with_reducible refine w_asg ?_) | (with_reducible refine w_gname ?_) | (with_reducible refine w_op ?_) | (with_reducible refine w_un ?_)
  | (with_reducible refine w_add ?_) | (with_reducible refine w_sub ?_) | ((with_reducible refine' w_mod ?mo ?_); (case mo => first | assumption | decide | omega)) | (with_reducible refine w_and ?_) | (with_reducible refine w_or ?_) | (with_reducible refine w_xor ?_)
  | (with_reducible refine w_gt ?_) | (with_reducible refine w_lt ?_) | (with_reducible refine w_ge ?_) | (with_reducible refine w_le ?_) | ((with_reducible refine' w_eq ?sc ?_); (case sc => rfl)) | ((with_reducible refine' w_ne ?sc ?_); (case sc => rfl))
  | (with_reducible refine w_ret ?_) | (with_reducible refine w_next ?_) | (with_reducible refine w_ifs ?_) | (with_reducible refine w_ifx ?_) | (with_reducible refine w_test ?_) | (with_reducible refine w_tB ?_) | (with_reducible refine w_bl ?_)
  | ((with_reducible refine' w_ixL ?ixh ?ixa ?_); (case ixh => first | exact SqL.of (by assumption)); (case ixa => first | rfl | skip)) | ((with_reducible refine' w_ixT ?ixh ?ixa ?_); (case ixh => first | exact SqT.of (by assumption)); (case ixa => first | rfl | skip))
  | ((with_reducible refine' w_fld ?_)) | ((with_reducible refine' fld ?fh ?fc ?fn ?fl ?_); (case fh => assumption); (case fc => assumption); (case fn => assumption); (case fl => rfl)) | (with_reducible refine w_sfld ?_)
  | (with_reducible refine Or.inl ⟨_, rfl, ?_⟩) | (with_reducible refine w_gsub ?_) | (with_reducible refine w_andV ?_) | (with_reducible refine w_orV ?_)
  | (with_reducible refine w_nil ?_) | (with_reducible refine w_cons ?_) | (with_reducible refine w_tup ?_) | (with_reducible refine w_lst ?_) | (with_reducible refine w_and2 ?_) | (with_reducible refine w_or2 ?_) | (with_reducible refine w_not ?_) | (with_reducible refine w_cb ?_) | (with_reducible refine w_call ?_) | (with_reducible refine w_par ?_) | (with_reducible refine w_pnil ?_) | (with_reducible refine w_pcons ?_) | (with_reducible refine w_dput ?_) | (with_reducible refine w_dget ?_) | (with_reducible refine w_for ?_) | (with_reducible refine w_itup ?_) | (with_reducible refine w_ilist ?_) | (with_reducible refine w_irng ?_) | (with_reducible refine w_meth ?_) | (with_reducible refine w_make ?_) | (with_reducible refine w_makeK ?_) | (with_reducible refine w_methK ?_) | ((with_reducible refine' mth ?mh ?ml ?_); (case mh => assumption); (case ml => rfl)) | (with_reducible refine w_drop ?_))
local macro_rules | `(tactic| walk_at "go") => `(tactic| ((repeat (walk_at "1")); try dsimp only))
local macro_rules | `(tactic| walk_at "1") => `(tactic| first
  | (with_reducible refine w_notV ?_) | (with_reducible refine w_callK ?_) | (with_reducible refine w_lc ?_) | (with_reducible refine w_chain ?_) | (with_reducible refine w_neg ?_) | ((with_reducible refine' w_shr ?mo ?_); (case mo => first | assumption | omega)))
/-! ### what a blend is, told by its results -/
def Rep (w : Int) (b : Bq) (g : Nat → Nat) : Prop := ∃ (s : Int) (k f : Nat), NumOk w s k f ∧ b = BN w s k f ∧ ∀ v, v < 2 ^ w.toNat → RN w s k f v = g v
theorem Rep.ok {w : Int} {b : Bq} {g : Nat → Nat} (hw : wd w = true) (h : Rep w b g) : b.ok = true := by
  obtain ⟨s, k, f, o, rfl, _⟩ := h
  exact BN_ok hw o
theorem Rep.wd {w : Int} {b : Bq} {g : Nat → Nat} (h : Rep w b g) : b.w = w := by
  obtain ⟨s, k, f, o, rfl, _⟩ := h
  rfl
theorem BN_num {w s : Int} {k f : Nat} (hw : wd w = true) (o : NumOk w s k f) : NumOk w (sN w.toNat s k) (kN w.toNat s k) f := by
  refine ⟨?_, ?_, kN_lt o.k, o.f⟩
  · unfold sN; split
    · have := wd_of hw; omega
    · exact o.lo
  · unfold sN; split
    · have := wd_of hw; omega
    · exact o.hi
theorem rep_begin {w s : Int} {k f : Nat} (hw : wd w = true) (o : NumOk w s k f) : Rep w (norm w s k f) (fun v => (gN w.toNat s v &&& k) ^^^ f) :=
  ⟨s, k, f, o, norm_nat hw, fun v hv => st_begin hv⟩
theorem rep_and {w : Int} {b : Bq} {g : Nat → Nat} {n : Nat} (hw : wd w = true) (hn : n < 2 ^ w.toNat) (h : Rep w b g) : Rep w (gAnd b n) (fun v => g v &&& n) := by
  obtain ⟨s, k, f, o, rfl, e⟩ := h
  have o1 := BN_num hw o
  refine ⟨sN w.toNat s k, kN w.toNat s k &&& n, f &&& n, ⟨o1.lo, o1.hi, Nat.lt_of_le_of_lt Nat.and_le_left o1.k, Nat.lt_of_le_of_lt Nat.and_le_left o1.f⟩, ?_, fun v hv => ?_⟩
  · unfold gAnd BN
    dsimp only
    rw [PyProof.Rows.bitAnd_pp (Int.natCast_nonneg _) (Int.natCast_nonneg _), PyProof.Rows.bitAnd_pp (Int.natCast_nonneg _) (Int.natCast_nonneg _)]
    exact norm_nat hw
  · show _ = g v &&& n
    rw [← e v hv]
    exact st_and
theorem rep_or {w : Int} {b : Bq} {g : Nat → Nat} {n : Nat} (hw : wd w = true) (hn : n < 2 ^ w.toNat) (h : Rep w b g) : Rep w (gOr b n) (fun v => g v ||| n) := by
  obtain ⟨s, k, f, o, rfl, e⟩ := h
  have o1 := BN_num hw o
  refine ⟨sN w.toNat s k, kN w.toNat s k &&& (n ^^^ fullN w.toNat), f ||| n, ⟨o1.lo, o1.hi, Nat.lt_of_le_of_lt Nat.and_le_left o1.k, Nat.or_lt_two_pow o1.f hn⟩, ?_, fun v hv => ?_⟩
  · unfold gOr BN
    dsimp only
    rw [fw_nat hw, Bits.bitXor_pp (Int.natCast_nonneg _) (Int.natCast_nonneg _), PyProof.Rows.bitAnd_pp (Int.natCast_nonneg _) (Int.natCast_nonneg _), Bits.bitOr_pp (Int.natCast_nonneg _) (Int.natCast_nonneg _)]
    exact norm_nat hw
  · show _ = g v ||| n
    rw [← e v hv]
    exact st_or
theorem rep_xor {w : Int} {b : Bq} {g : Nat → Nat} {n : Nat} (hw : wd w = true) (hn : n < 2 ^ w.toNat) (h : Rep w b g) : Rep w (gXor b n) (fun v => g v ^^^ n) := by
  obtain ⟨s, k, f, o, rfl, e⟩ := h
  have o1 := BN_num hw o
  refine ⟨sN w.toNat s k, kN w.toNat s k, f ^^^ n, ⟨o1.lo, o1.hi, o1.k, Nat.xor_lt_two_pow o1.f hn⟩, ?_, fun v hv => ?_⟩
  · unfold gXor BN
    dsimp only
    rw [Bits.bitXor_pp (Int.natCast_nonneg _) (Int.natCast_nonneg _)]
    exact norm_nat hw
  · show _ = g v ^^^ n
    rw [← e v hv]
    exact st_xor
theorem rep_inv {w : Int} {b : Bq} {g : Nat → Nat} (hw : wd w = true) (h : Rep w b g) : Rep w (gXor b (fw b.w)) (fun v => g v ^^^ fullN w.toNat) := by
  rw [h.wd, fw_nat hw]
  exact rep_xor hw (full_lt _) h
theorem dI2 {w t : Int} (hw : wd w = true) : norm w t (fw w) 0 = BN w t (fullN w.toNat) 0 := by
  rw [fw_nat hw]
  exact norm_nat hw
/-- what is moved on, its numbers -/
theorem rep_mv {w t : Int} {b : Bq} {g : Nat → Nat} (hw : wd w = true) (t0 : -w ≤ t) (t1 : t ≤ w) (h : Rep w b g) :
    okN w (if Builtin.bitAnd (shf b.k (norm w t (fw w) 0).s w) (norm w t (fw w) 0).k = 0 then 0 else b.s + (norm w t (fw w) 0).s) (Builtin.bitAnd (shf b.k (norm w t (fw w) 0).s w) (norm w t (fw w) 0).k) (Builtin.bitXor (Builtin.bitAnd (shf b.f (norm w t (fw w) 0).s w) (norm w t (fw w) 0).k) (norm w t (fw w) 0).f) = true ∧
    (norm w t (fw w) 0).ok = true ∧ Rep w (gThen b (norm w t (fw w) 0)) (fun v => gN w.toNat t (g v)) := by
  obtain ⟨s, k, f, o, rfl, e⟩ := h
  have o1 := BN_num hw o
  have w0 : 0 ≤ w := by have := wd_of hw; omega
  have ew : ((w.toNat : Nat) : Int) = w := by omega
  have oc : NumOk w t (fullN w.toNat) 0 := ⟨t0, t1, full_lt _, Nat.pow_pos (by decide)⟩
  have ek : Builtin.bitAnd (shf (BN w s k f).k (norm w t (fw w) 0).s w) (norm w t (fw w) 0).k = ((gN w.toNat t (kN w.toNat s k) : Nat) : Int) := by
    rw [dI2 hw]
    unfold BN
    dsimp only
    rw [shf_nat o1.k, PyProof.Rows.bitAnd_pp (Int.natCast_nonneg _) (Int.natCast_nonneg _)]
    simp only [Int.toNat_natCast]
    rw [gN_keep o1.k]
  have ef : Builtin.bitXor (Builtin.bitAnd (shf (BN w s k f).f (norm w t (fw w) 0).s w) (norm w t (fw w) 0).k) (norm w t (fw w) 0).f = ((gN w.toNat t f : Nat) : Int) := by
    rw [dI2 hw]
    unfold BN
    dsimp only
    rw [shf_nat o1.f, PyProof.Rows.bitAnd_pp (Int.natCast_nonneg _) (Int.natCast_nonneg _), Bits.bitXor_pp (Int.natCast_nonneg _) (by decide)]
    simp only [Int.toNat_natCast]
    rw [gN_keep o1.f]
    simp
  have es : (if Builtin.bitAnd (shf (BN w s k f).k (norm w t (fw w) 0).s w) (norm w t (fw w) 0).k = 0 then 0 else (BN w s k f).s + (norm w t (fw w) 0).s) = mvS w.toNat s t k := by
    rw [ek]
    unfold mvS
    rw [dI2 hw]
    unfold BN
    dsimp only
    by_cases z : gN w.toNat t (kN w.toNat s k) = 0
    · rw [if_pos (by rw [z]; rfl), if_pos z]
    · rw [if_neg (by omega), if_neg z]
  obtain ⟨r1, r2⟩ := mv_range (w := w.toNat) (s := s) (t := t) o.k
  have on : NumOk w (mvS w.toNat s t k) (gN w.toNat t (kN w.toNat s k)) (gN w.toNat t f) := ⟨by omega, by omega, gN_lt o1.k, gN_lt o.f⟩
  refine ⟨?_, ?_, ?_⟩
  · rw [es, ek, ef]
    exact on.okN hw
  · rw [dI2 hw]
    exact BN_ok hw oc
  · refine ⟨mvS w.toNat s t k, gN w.toNat t (kN w.toNat s k), gN w.toNat t f, on, ?_, fun v hv => ?_⟩
    · unfold gThen
      dsimp only
      rw [show (BN w s k f).w = w from rfl, es, ek, ef]
      exact norm_nat hw
    · show _ = gN w.toNat t (g v)
      rw [← e v hv]
      exact st_mv o.k o.f hv
theorem Stp.go_begin {w s : Int} {k f v : Nat} : Stp.go w v (.beg s k f) = (gN w.toNat s v &&& k) ^^^ f := rfl
theorem done_snoc {w : Int} {l : List Stp} {x : Stp} {v : Nat} : doneN w (l ++ [x]) v = x.go w (doneN w l v) := by
  unfold doneN
  rw [List.foldl_append]
  rfl
/-! ### the law's blends, begun and led on -/
def BlR (C p l : Addr) (cells : List Int) (n : Nat) (w : Int) (g : Nat → Nat) (r : Addr) (H : Hp) : Prop := PenC n p l cells H ∧ ∃ b, BlAt C H r b ∧ Rep w b g
def spBegun (C : Addr) : Sp := fun vs H Q _ => ∃ (p l : Addr) (cells : List Int) (n : Nat) (w : Int), vs = [.ref p, .int w] ∧ PenC n p l cells H ∧ n + 14 ≤ 100000 ∧ wd w = true ∧
  ∀ (t r : Addr) (u : V) (b : Bq) (x : Stp) (H' : Hp), H' t = some (.tup [.ref r, u]) → BlAt C H' r b → StA H' u x → x.ok w → Rep w b (fun v => x.go w v) → PenC (n + 14) p l cells H' → Kp p H H' → Q (.ref t) H'
def spStep (C : Addr) : Sp := fun vs H Q _ => ∃ (p l : Addr) (cells : List Int) (n : Nat) (w : Int) (r : Addr) (b : Bq) (g : Nat → Nat), vs = [.ref p, .ref r] ∧ PenC n p l cells H ∧ n + 10 ≤ 100000 ∧ wd w = true ∧ BlAt C H r b ∧ Rep w b g ∧
  ∀ (t r : Addr) (u : V) (b : Bq) (x : Stp) (H' : Hp), H' t = some (.tup [.ref r, u]) → BlAt C H' r b → StA H' u x → x.ok w → Rep w b (fun v => x.go w (g v)) → PenC (n + 10) p l cells H' → Kp p H H' → Q (.ref t) H'
/-- the blend that returns its argument, made -/
theorem mk_id {C c0 : Addr} {w : Int} {H : Hp} {Q : VK} {E : XK} (h : wd w = true) (q : ∀ (r : Addr) (H' : Hp), H r = none → BlAt C H' r (norm w 0 (fw w) 0) → Same H H' → Q (.ref r) H') : Make C (spBI C c0) (fun x => x :: ([.int w] ++ [.int 0, .non, .int 0])) E H Q := by
  obtain ⟨f0, f1, f2, f3⟩ := wd_fw h
  refine make fun r dx H3 nr hr s3 => ⟨r, dx, hr, .inr ⟨w, 0, fw w, 0, .non, rfl, ?_, .inl ⟨rfl, rfl⟩, fun H4 h4 e4 => ⟨rfl, q r H4 nr h4 fun b o e => e4 b o (s3 b o e) (ne_of_none e nr)⟩⟩⟩
  exact okN_mk h (by omega) (by omega) ⟨f0, Int.le_refl _⟩ ⟨Int.le_refl _, f0⟩
theorem Kp.at_tup {p a : Addr} {H H' : Hp} {ys xs : List V} (k : Kp p H H') (hp : H p = some (.lst ys)) (h : H a = some (.tup xs)) : H' a = some (.tup xs) := k _ _ h fun z => by
  rw [z, hp] at h
  cases h
theorem BlAt.kp {C p a : Addr} {H H' : Hp} {ys : List V} {b : Bq} (h : BlAt C H a b) (k : Kp p H H') (hp : H p = some (.lst ys)) : BlAt C H' a b := by
  obtain ⟨dx, e⟩ := h
  exact ⟨dx, k _ _ e fun z => by rw [z, hp] at e; cases e⟩
theorem w_par3 {i j l : Nat} {ta : TA} {D : Ends} {σ : L2.St} {H : Hp} (q : ta σ H fun vs H1 => ∃ u v w, vs = [u, v, w] ∧ D.nx (((σ.set i (some u)).set j (some v)).set l (some w)) H1) : tPar3 i j l ta D σ H := q
section
variable {P : Program} {w : World} {K : PySem.W.Frag} {mg : Str → Option Value} {base : Heap} {C aL aP c0 : Addr} {tl : Int → Addr}
theorem ok_begun {fT pc1 gC : Addr} {fd fdC : FuncData} {mc : Value} {d2 : List Value} (D : DefAt K mg "_law_begun" s__law_begun ["_law_pen_here", "_law_width"]) (T : T1 K w mg C aL aP tl) (MK : Mk K C fT) (FIN : Gd P w K mg base (L2.CX P w) 4 fT fd ["self", "width", "shift", "keep", "flip"] (spBI C c0))
    (v2 : Vals [.int 0, .non, .int 0] d2) (b2 : Binds K fd ["self", "width", "shift", "keep", "flip"] d2) (b5 : Binds K fd ["self", "width", "shift", "keep", "flip"] []) (CR : ClX.CRead K C mc) (CM : ClX.CMet K C mc "constant" pc1 gC) (FCs : Gd P w K mg base (L2.CX P w) 6 gC fdC ["cls", "width", "value"] (spCst C)) (bCs : Binds K fdC ["cls", "width", "value"] [])
    (c_law_draw : Cal P w K mg base 1 "_law_draw" spDraw) (c_law_word : Cal P w K mg base 2 "_law_word" spWord) (c_law_top : Cal P w K mg base 1 "_law_top" spTop) : Cal P w K mg base 7 "_law_begun" (spBegun C) := by
  refine D.cal (k := 6) sc__law_begun (fun vs H Q E h => ?_) (fun f cdv A outer s H vs Q E rm gd h => ?_)
  · obtain ⟨p, l, cells, n, wi, rfl, _⟩ := h
    rfl
  · obtain ⟨p, l, cells, n, wi, rfl, pen, hn, hw, q⟩ := h
    have h3 := wd_of hw
    obtain ⟨f0, f1, f2, f3⟩ := wd_fw hw
    have rm5 := rm.mono (show 5 ≤ 6 by decide)
    refine ⟨_, (pss_cons (ps_set (i := 2) sc__law_begun.nd rfl (Or.inl rfl) (pc c_law_draw rm (by decide) gd rfl (pa_cons (pv 0) (pa_cons pe_int pa_nil))))
    (pss_cons (ps_if (pt_cmpR op_eq (pv 2) pe_int (nomark _))
      (pss_one (ps_ret (pe_tup (pa_cons (pe_gmake MK FIN rm5 gd rfl T.g_Blend b2 v2 pass_no (pa_cons (pv 1) pa_nil)) (pa_cons (pe_tup (pa_cons pe_str (pa_cons (pe_tup (pa_cons pe_int (pa_cons (pc c_law_top rm (by decide) gd rfl (pa_cons (pv 1) pa_nil)) (pa_cons pe_int pa_nil)))) pa_nil))) pa_nil)))))
      pss_nil)
    (pss_cons (ps_par3 (i := 3) (j := 4) (l := 5) rfl sc__law_begun.nd rfl rfl rfl (by decide) (by decide) (by decide) rfl rfl rfl (pa_cons (pe_op op_sub (pc c_law_draw rm (by decide) gd rfl (pa_cons (pv 0) (pa_cons (pe_op op_add (pe_op op_mul pe_int (pv 1)) pe_int) pa_nil))) (pv 1)) (pa_cons (pc c_law_word rm (by decide) gd rfl (pa_cons (pv 0) (pa_cons (pv 1) pa_nil))) (pa_cons (pc c_law_word rm (by decide) gd rfl (pa_cons (pv 0) (pa_cons (pv 1) pa_nil))) pa_nil))) (by rfl))
    (pss_cons (ps_if (pt_cmpR op_eq (pv 2) pe_int (nomark _))
      (pss_one (ps_ret (pe_tup (pa_cons (pe_gcm (pe_glob (v := .ref C) rfl T.g_Blend rfl) CR CM FCs rm gd bCs pass_no (pa_cons (pv 1) (pa_cons (pv 5) pa_nil))) (pa_cons (pe_tup (pa_cons pe_str (pa_cons (pe_tup (pa_cons pe_int (pa_cons pe_int (pa_cons (pv 5) pa_nil)))) pa_nil))) pa_nil)))))
      pss_nil)
    (pss_one (ps_ret (pe_tup (pa_cons (pe_gmake MK FIN rm5 gd rfl T.g_Blend b5 .nil pass_no (pa_cons (pv 1) (pa_cons (pv 3) (pa_cons (pv 4) (pa_cons (pv 5) pa_nil))))) (pa_cons (pe_tup (pa_cons pe_str (pa_cons (pe_tup (pa_cons (pv 3) (pa_cons (pv 4) (pa_cons (pv 5) pa_nil)))) pa_nil))) pa_nil))))))))), ?_⟩
    walk_at "go"
    refine ⟨p, l, cells, n, 3, rfl, pen, by omega, by decide, by decide, fun d H1 d0 d1 pen1 k1 => ?_⟩
    walk_at "go"
    rw [dI']
    by_cases hd : d = 0
    · rw [decide_eq_true hd]
      refine iteT ?_
      walk_at "go"
      refine mk_id hw fun r H2 nr hr z2 => ?_
      walk_at "go"
      refine ⟨wi, rfl, hw, fun H3 z3 => ?_⟩
      walk_at "go"
      refine new (show 3 ≤ sizeLine by decide) fun t3 H4 n4 h4 z4 => ?_
      walk_at "go"
      refine new (show 2 ≤ sizeLine by decide) fun t2 H5 n5 h5 z5 => ?_
      walk_at "go"
      refine new (show 2 ≤ sizeLine by decide) fun t H6 n6 h6 z6 => ?_
      have zz := z2.trans (z3.trans (z4.trans (z5.trans z6)))
      have o : NumOk wi 0 (fullN wi.toNat) 0 := ⟨by omega, by omega, full_lt _, Nat.pow_pos (by decide)⟩
      refine q t r (.ref t2) _ (.beg 0 (fullN wi.toNat) 0) H6 h6 (hr.same (z3.trans (z4.trans (z5.trans z6)))) ⟨t2, t3, rfl, z6 _ _ h5, ?_⟩ o ?_ ((pen1.same zz).mono (by omega)) (k1.trans (Kp.of_same zz))
      · show H6 t3 = _
        rw [z6 _ _ (z5 _ _ h4), fw_nat hw]
        rfl
      · have e := rep_begin hw o
        rw [← fw_nat hw] at e
        exact e
    · rw [decide_eq_false hd]
      refine iteF ?_
      walk_at "go"
      refine w_par3 ?_
      walk_at "go"
      refine w_mul (.inl ⟨by decide, by decide⟩) ?_
      walk_at "go"
      refine ⟨p, l, cells, n + 1, 2 * wi + 1, rfl, pen1, by omega, by omega, by omega, fun d3 H2 d30 d31 pen2 k2 => ?_⟩
      walk_at "go"
      refine ⟨p, l, cells, n + 2, wi, rfl, pen2, by omega, hw, fun kv H3 kv0 kv1 pen3 k3 => ?_⟩
      walk_at "go"
      refine ⟨p, l, cells, n + 8, wi, rfl, pen3, by omega, hw, fun fv H4 fv0 fv1 pen4 k4 => ?_⟩
      obtain ⟨kn, rfl, hk⟩ := fl_nat hw kv0 kv1
      obtain ⟨fn, rfl, hf⟩ := fl_nat hw fv0 fv1
      walk_at "go"
      refine ⟨_, _, _, rfl, ?_⟩
      have kk := k1.trans (k2.trans (k3.trans k4))
      have pen5 := pen4
      have o : NumOk wi (d3 - wi) kn fn := ⟨by omega, by omega, hk, hf⟩
      have o0 : NumOk wi 0 0 fn := ⟨by omega, by omega, Nat.pow_pos (by decide), hf⟩
      walk_at "go"
      rw [dI']
      by_cases hd1 : d = 1
      · rw [decide_eq_true hd1]
        refine iteT ?_
        walk_at "go"
        refine ⟨rfl, ?_⟩
        walk_at "go"
        refine ⟨wi, (fn : Int), rfl, hw, fv0, fv1, fun r H6 nr hr z6 => ?_⟩
        walk_at "go"
        refine new (show 3 ≤ sizeLine by decide) fun t3 H7 n7 h7 z7 => ?_
        walk_at "go"
        refine new (show 2 ≤ sizeLine by decide) fun t2 H8 n8 h8 z8 => ?_
        walk_at "go"
        refine new (show 2 ≤ sizeLine by decide) fun t H9 n9 h9 z9 => ?_
        have zz := z6.trans (z7.trans (z8.trans z9))
        exact q t r (.ref t2) _ (.beg 0 0 fn) H9 h9 (hr.same (z7.trans (z8.trans z9))) ⟨t2, t3, rfl, z9 _ _ h8, z9 _ _ (z8 _ _ h7)⟩ o0 (rep_begin hw o0) ((pen5.same zz).mono (by omega)) (kk.trans (Kp.of_same zz))
      · rw [decide_eq_false hd1]
        refine iteF ?_
        walk_at "go"
        refine mk_bl (o.okN hw) fun r H6 nr hr z6 => ?_
        walk_at "go"
        refine new (show 3 ≤ sizeLine by decide) fun t3 H7 n7 h7 z7 => ?_
        walk_at "go"
        refine new (show 2 ≤ sizeLine by decide) fun t2 H8 n8 h8 z8 => ?_
        walk_at "go"
        refine new (show 2 ≤ sizeLine by decide) fun t H9 n9 h9 z9 => ?_
        have zz := z6.trans (z7.trans (z8.trans z9))
        exact q t r (.ref t2) _ (.beg (d3 - wi) kn fn) H9 h9 (hr.same (z7.trans (z8.trans z9))) ⟨t2, t3, rfl, z9 _ _ h8, z9 _ _ (z8 _ _ h7)⟩ o (rep_begin hw o) ((pen5.same zz).mono (by omega)) (kk.trans (Kp.of_same zz))
theorem ok_step {gA gO gX gL gS kA1 kO1 kX1 iI : Addr} {fA fO fX fL fS kfA kfO kfX fI_ : FuncData} (D : DefAt K mg "_law_step" s__law_step ["_law_pen_here", "_law_blend"]) (T : T1 K w mg C aL aP tl)
    (FA : Gd P w K mg base CX0 6 gA fA ["self", "other"] (spW2 C gAnd)) (bA : Binds K fA ["self", "other"] []) (oA : OpAt K C gA .BitAnd) (nA : InAt K C gA .BitAnd) (kA : BackAt K C gA kA1 .BitAnd "int.__and__") (GA : Gd P w K mg base CX0 7 kA1 kfA ["self", "other"] (spW2 C gAnd)) (cA : Binds K kfA ["self", "other"] [])
    (FO : Gd P w K mg base CX0 6 gO fO ["self", "other"] (spW2 C gOr)) (bO : Binds K fO ["self", "other"] []) (oO : OpAt K C gO .BitOr) (nO : InAt K C gO .BitOr) (kO : BackAt K C gO kO1 .BitOr "int.__or__") (GO : Gd P w K mg base CX0 7 kO1 kfO ["self", "other"] (spW2 C gOr)) (cO : Binds K kfO ["self", "other"] [])
    (FX : Gd P w K mg base CX0 6 gX fX ["self", "other"] (spW2 C gXor)) (bX : Binds K fX ["self", "other"] []) (oX : OpAt K C gX .BitXor) (kX : BackAt K C gX kX1 .BitXor "int.__xor__") (GX : Gd P w K mg base CX0 7 kX1 kfX ["self", "other"] (spW2 C gXor)) (cX : Binds K kfX ["self", "other"] [])
    (FL : Gd P w K mg base CX0 7 gL fL ["self", "other"] (spMv C 1)) (bL : Binds K fL ["self", "other"] []) (oL : OpAt K C gL .LShift) (nL : InAt K C gL .LShift)
    (FS : Gd P w K mg base CX0 7 gS fS ["self", "other"] (spMv C (-1))) (bS : Binds K fS ["self", "other"] []) (oS : OpAt K C gS .RShift)
    (iI1 : PySem.W.findIn K (.ref C) "__invert__" = some (some (.ref iI))) (iI2 : PySem.W.isFn K (.ref iI) = true) (FI : Gd P w K mg base CX0 7 iI fI_ ["self"] (spInv C)) (bI : Binds K fI_ ["self"] [])
    (c_law_draw : Cal P w K mg base 1 "_law_draw" spDraw) (c_law_word : Cal P w K mg base 2 "_law_word" spWord) : Cal P w K mg base 8 "_law_step" (spStep C) := by
  refine D.cal (k := 7) sc__law_step (fun vs H Q E h => ?_) (fun f cdv A outer s H vs Q E rm gd h => ?_)
  · obtain ⟨p, l, cells, n, wi, r, b, g, rfl, _⟩ := h
    rfl
  · obtain ⟨p, l, cells, n, wi, r, b, g, rfl, pen, hn, hw, hb, rep, q⟩ := h
    have h3 := wd_of hw
    obtain ⟨f0, f1, f2, f3⟩ := wd_fw hw
    have rm6 := rm.mono (show 6 ≤ 7 by decide)
    have okb := rep.ok hw
    have hbw := rep.wd
    obtain ⟨dx, hx⟩ := at_fld hb
    have cl := T.cl
    have nW := T.nW
    refine ⟨_, (pss_cons (ps_set (i := 2) sc__law_step.nd rfl (Or.inl rfl) (pe_fld (pv 1) rfl))
    (pss_cons (ps_set (i := 3) sc__law_step.nd rfl (Or.inl rfl) (pc c_law_word rm (by decide) gd rfl (pa_cons (pv 0) (pa_cons (pv 2) pa_nil))))
    (pss_cons (ps_set (i := 4) sc__law_step.nd rfl (Or.inl rfl) (pe_ix ix_list (pe_lst (pa_cons pe_int (pa_cons pe_int (pa_cons pe_int (pa_cons (pv 2) (pa_cons (pc c_law_draw rm (by decide) gd rfl (pa_cons (pv 0) (pa_cons (pe_op op_add (pv 2) pe_int) pa_nil))) (pa_cons (pc c_law_draw rm (by decide) gd rfl (pa_cons (pv 0) (pa_cons pe_int pa_nil))) pa_nil))))))) (pc c_law_draw rm (by decide) gd rfl (pa_cons (pv 0) (pa_cons pe_int pa_nil))) (fun _ _ => rfl)))
    (pss_cons (ps_set (i := 5) sc__law_step.nd rfl (Or.inl rfl) (pc c_law_draw rm (by decide) gd rfl (pa_cons (pv 0) (pa_cons pe_int pa_nil))))
    (pss_cons (ps_if (pt_cmpR op_lt (pv 5) pe_int (nomark _))
      (pss_one (ps_ret (pe_tup (pa_cons (pe_ifExp (pt_cmpR op_eq (pv 5) pe_int (nomark _)) (pe_op (op_ownI oA FA rm6 gd bA pass0) (pv 1) (pv 3)) (pe_op (op_backI kA GA rm gd cA pass0) (pv 3) (pv 1))) (pa_cons (pe_tup (pa_cons pe_str (pa_cons (pv 3) pa_nil))) pa_nil)))))
      pss_nil)
    (pss_cons (ps_if (pt_cmpR op_lt (pv 5) pe_int (nomark _))
      (pss_one (ps_ret (pe_tup (pa_cons (pe_ifExp (pt_cmpR op_eq (pv 5) pe_int (nomark _)) (pe_op (op_ownI oO FO rm6 gd bO pass0) (pv 1) (pv 3)) (pe_op (op_backI kO GO rm gd cO pass0) (pv 3) (pv 1))) (pa_cons (pe_tup (pa_cons pe_str (pa_cons (pv 3) pa_nil))) pa_nil)))))
      pss_nil)
    (pss_cons (ps_if (pt_cmpR op_lt (pv 5) pe_int (nomark _))
      (pss_one (ps_ret (pe_tup (pa_cons (pe_ifExp (pt_cmpR op_eq (pv 5) pe_int (nomark _)) (pe_op (op_ownI oX FX rm6 gd bX pass0) (pv 1) (pv 3)) (pe_op (op_backI kX GX rm gd cX pass0) (pv 3) (pv 1))) (pa_cons (pe_tup (pa_cons pe_str (pa_cons (pv 3) pa_nil))) pa_nil)))))
      pss_nil)
    (pss_cons (ps_if (pt_cmpR op_eq (pv 5) pe_int (nomark _))
      (pss_one (ps_ret (pe_tup (pa_cons (pe_un (KG.un_inv iI1 iI2 FI rm gd bI pass0) (pv 1)) (pa_cons (pe_tup (pa_cons pe_str (pa_cons pe_int pa_nil))) pa_nil)))))
      pss_nil)
    (pss_cons (ps_if (pt_cmpR op_eq (pv 5) pe_int (nomark _))
      (pss_one (ps_ret (pe_tup (pa_cons (pe_op (op_ownI oL FL rm gd bL pass0) (pv 1) (pv 4)) (pa_cons (pe_tup (pa_cons pe_str (pa_cons (pv 4) pa_nil))) pa_nil)))))
      pss_nil)
    (pss_cons (ps_if (pt_cmpR op_eq (pv 5) pe_int (nomark _))
      (pss_one (ps_ret (pe_tup (pa_cons (pe_op (op_ownI oS FS rm gd bS pass0) (pv 1) (pv 4)) (pa_cons (pe_tup (pa_cons pe_str (pa_cons (pe_op op_sub pe_int (pv 4)) pa_nil))) pa_nil)))))
      pss_nil)
    (pss_cons (ps_if (pt_cmpR op_eq (pv 5) pe_int (nomark _))
      (pss_cons (ps_aug (i := 1) sc__law_step.nd rfl (Or.inl rfl) (pv 3) (fun pins s σ H x y v u Q I rx ry q => augR (op_inI nA FA rm6 gd bA pass0) I rx ry q))
      (pss_one (ps_ret (pe_tup (pa_cons (pv 1) (pa_cons (pe_tup (pa_cons pe_str (pa_cons (pv 3) pa_nil))) pa_nil))))))
      pss_nil)
    (pss_cons (ps_if (pt_cmpR op_eq (pv 5) pe_int (nomark _))
      (pss_cons (ps_aug (i := 1) sc__law_step.nd rfl (Or.inl rfl) (pv 4) (fun pins s σ H x y v u Q I rx ry q => augR (op_inI nL FL rm gd bL pass0) I rx ry q))
      (pss_one (ps_ret (pe_tup (pa_cons (pv 1) (pa_cons (pe_tup (pa_cons pe_str (pa_cons (pv 4) pa_nil))) pa_nil))))))
      pss_nil)
    (pss_cons (ps_aug (i := 1) sc__law_step.nd rfl (Or.inl rfl) (pv 3) (fun pins s σ H x y v u Q I rx ry q => augR (op_inI nO FO rm6 gd bO pass0) I rx ry q))
    (pss_one (ps_ret (pe_tup (pa_cons (pv 1) (pa_cons (pe_tup (pa_cons pe_str (pa_cons (pv 3) pa_nil))) pa_nil)))))))))))))))))), ?_⟩
    walk_at "go"
    rw [hbw]
    refine ⟨p, l, cells, n, wi, rfl, pen, by omega, hw, fun wv H1 wv0 wv1 pen1 k1 => ?_⟩
    obtain ⟨wn, rfl, hwn⟩ := fl_nat hw wv0 wv1
    walk_at "go"
    refine ⟨p, l, cells, n + 6, wi + 1, rfl, pen1, by omega, by omega, by omega, fun e1 H2 e10 e11 pen2 k2 => ?_⟩
    walk_at "go"
    refine ⟨p, l, cells, n + 7, 9, rfl, pen2, by omega, by decide, by decide, fun e2 H3 e20 e21 pen3 k3 => ?_⟩
    walk_at "go"
    refine new (show 6 ≤ sizeLine by decide) fun t6 H4 n4 h4 z4 => ?_
    walk_at "go"
    refine ⟨p, l, cells, n + 8, 6, rfl, pen3.same z4, by omega, by decide, by decide, fun j H5 j0 j1 pen5 k5 => ?_⟩
    have tp : t6 ≠ p := fun z => by
      obtain ⟨ys, hp3, _⟩ := pen3.at_p
      rw [z, hp3] at n4
      cases n4
    obtain ⟨nv, ev, hv⟩ := six_at (a := 0) (b := 1) (c := 4) (d := wi) (e := e1) (f := e2) j0 j1
    refine w_ixL (SqL.of (k5 _ _ h4 tp)) ev ?_
    have nv0 : 0 ≤ nv := by rcases hv with rfl | rfl | rfl | rfl | rfl | rfl <;> omega
    have nv1 : nv ≤ wi := by rcases hv with rfl | rfl | rfl | rfl | rfl | rfl <;> omega
    walk_at "go"
    refine ⟨p, l, cells, n + 9, 12, rfl, pen5, by omega, by decide, by decide, fun pk H6 pk0 pk1 pen6 k6 => ?_⟩
    have kk := k1.trans (k2.trans (k3.trans ((Kp.of_same z4).trans (k5.trans k6))))
    obtain ⟨ys, hp0, _⟩ := pen.at_p
    have hb := hb.kp kk hp0
    obtain ⟨dx, hx⟩ := at_fld hb
    have m1 := rep_mv (t := 1 * nv) hw (by omega) (by omega) rep
    have m2 := rep_mv (t := -1 * nv) hw (by omega) (by omega) rep
    have m1' := m1.2.2
    rw [Int.one_mul] at m1'
    have m2' := m2.2.2
    rw [Int.neg_one_mul] at m2'
    have fin : ∀ (t r2 t2 : Addr) (b2 : Bq) (x : Stp) (H7 H8 H9 : Hp), Same H6 H7 → Same H7 H8 → Same H8 H9 → ∀ {o : HO}, H9 t = some (.tup [.ref r2, .ref t2]) → BlAt C H7 r2 b2 → (∀ H', H' t2 = some o → StA H' (.ref t2) x) → H8 t2 = some o → x.ok wi → Rep wi b2 (fun v => x.go wi (g v)) → Q (.ref t) H9 := fun t r2 t2 b2 x H7 H8 H9 z7 z8 z9 o ht hb2 st h8 ok rp => by
      have zz := z7.trans (z8.trans z9)
      exact q t r2 (.ref t2) b2 x H9 ht (hb2.same (z8.trans z9)) (st H9 (z9 _ _ h8)) ok rp ((pen6.same zz).mono (by omega)) (kk.trans (Kp.of_same zz))
    have pks : pk = 0 ∨ pk = 1 ∨ pk = 2 ∨ pk = 3 ∨ pk = 4 ∨ pk = 5 ∨ pk = 6 ∨ pk = 7 ∨ pk = 8 ∨ pk = 9 ∨ pk = 10 ∨ pk = 11 := by omega
    walk_at "go"
    rcases pks with rfl | rfl | rfl | rfl | rfl | rfl | rfl | rfl | rfl | rfl | rfl | rfl
    · refine iteY (by decide +kernel) ?_
      walk_at "go"
      refine iteY (by decide +kernel) ?_
      walk_at "go"
      refine w_own hx ⟨r, b, (wn : Int), rfl, hb, okb, wv0, by rw [hbw]; exact wv1, fun r2 H7 n7 h7 z7 => ?_⟩
      walk_at "go"
      refine new (show 2 ≤ sizeLine by decide) fun t2 H8 n8 h8 z8 => ?_
      walk_at "go"
      refine new (show 2 ≤ sizeLine by decide) fun t H9 n9 h9 z9 => ?_
      exact fin t r2 t2 _ (.and wn) H7 H8 H9 z7 z8 z9 h9 h7 (fun H' e => ⟨t2, rfl, e⟩) h8 hwn (rep_and hw hwn rep)
    · refine iteY (by decide +kernel) ?_
      walk_at "go"
      refine iteN (by decide +kernel) ?_
      walk_at "go"
      refine w_backO hx ⟨r, b, (wn : Int), rfl, hb, okb, wv0, by rw [hbw]; exact wv1, fun r2 H7 n7 h7 z7 => ?_⟩
      walk_at "go"
      refine new (show 2 ≤ sizeLine by decide) fun t2 H8 n8 h8 z8 => ?_
      walk_at "go"
      refine new (show 2 ≤ sizeLine by decide) fun t H9 n9 h9 z9 => ?_
      exact fin t r2 t2 _ (.and wn) H7 H8 H9 z7 z8 z9 h9 h7 (fun H' e => ⟨t2, rfl, e⟩) h8 hwn (rep_and hw hwn rep)
    · refine iteN (by decide +kernel) ?_
      walk_at "go"
      refine iteY (by decide +kernel) ?_
      walk_at "go"
      refine iteY (by decide +kernel) ?_
      walk_at "go"
      refine w_own hx ⟨r, b, (wn : Int), rfl, hb, okb, wv0, by rw [hbw]; exact wv1, fun r2 H7 n7 h7 z7 => ?_⟩
      walk_at "go"
      refine new (show 2 ≤ sizeLine by decide) fun t2 H8 n8 h8 z8 => ?_
      walk_at "go"
      refine new (show 2 ≤ sizeLine by decide) fun t H9 n9 h9 z9 => ?_
      exact fin t r2 t2 _ (.or wn) H7 H8 H9 z7 z8 z9 h9 h7 (fun H' e => ⟨t2, rfl, e⟩) h8 hwn (rep_or hw hwn rep)
    · refine iteN (by decide +kernel) ?_
      walk_at "go"
      refine iteY (by decide +kernel) ?_
      walk_at "go"
      refine iteN (by decide +kernel) ?_
      walk_at "go"
      refine w_backO hx ⟨r, b, (wn : Int), rfl, hb, okb, wv0, by rw [hbw]; exact wv1, fun r2 H7 n7 h7 z7 => ?_⟩
      walk_at "go"
      refine new (show 2 ≤ sizeLine by decide) fun t2 H8 n8 h8 z8 => ?_
      walk_at "go"
      refine new (show 2 ≤ sizeLine by decide) fun t H9 n9 h9 z9 => ?_
      exact fin t r2 t2 _ (.or wn) H7 H8 H9 z7 z8 z9 h9 h7 (fun H' e => ⟨t2, rfl, e⟩) h8 hwn (rep_or hw hwn rep)
    · refine iteN (by decide +kernel) ?_
      walk_at "go"
      refine iteN (by decide +kernel) ?_
      walk_at "go"
      refine iteY (by decide +kernel) ?_
      walk_at "go"
      refine iteY (by decide +kernel) ?_
      walk_at "go"
      refine w_own hx ⟨r, b, (wn : Int), rfl, hb, okb, wv0, by rw [hbw]; exact wv1, fun r2 H7 n7 h7 z7 => ?_⟩
      walk_at "go"
      refine new (show 2 ≤ sizeLine by decide) fun t2 H8 n8 h8 z8 => ?_
      walk_at "go"
      refine new (show 2 ≤ sizeLine by decide) fun t H9 n9 h9 z9 => ?_
      exact fin t r2 t2 _ (.xor wn) H7 H8 H9 z7 z8 z9 h9 h7 (fun H' e => ⟨t2, rfl, e⟩) h8 hwn (rep_xor hw hwn rep)
    · refine iteN (by decide +kernel) ?_
      walk_at "go"
      refine iteN (by decide +kernel) ?_
      walk_at "go"
      refine iteY (by decide +kernel) ?_
      walk_at "go"
      refine iteN (by decide +kernel) ?_
      walk_at "go"
      refine w_backO hx ⟨r, b, (wn : Int), rfl, hb, okb, wv0, by rw [hbw]; exact wv1, fun r2 H7 n7 h7 z7 => ?_⟩
      walk_at "go"
      refine new (show 2 ≤ sizeLine by decide) fun t2 H8 n8 h8 z8 => ?_
      walk_at "go"
      refine new (show 2 ≤ sizeLine by decide) fun t H9 n9 h9 z9 => ?_
      exact fin t r2 t2 _ (.xor wn) H7 H8 H9 z7 z8 z9 h9 h7 (fun H' e => ⟨t2, rfl, e⟩) h8 hwn (rep_xor hw hwn rep)
    · refine iteN (by decide +kernel) ?_
      walk_at "go"
      refine iteN (by decide +kernel) ?_
      walk_at "go"
      refine iteN (by decide +kernel) ?_
      walk_at "go"
      refine iteY (by decide +kernel) ?_
      walk_at "go"
      refine w_invO hx ⟨r, b, rfl, hb, okb, fun r2 H7 n7 h7 z7 => ?_⟩
      walk_at "go"
      refine new (show 2 ≤ sizeLine by decide) fun t2 H8 n8 h8 z8 => ?_
      walk_at "go"
      refine new (show 2 ≤ sizeLine by decide) fun t H9 n9 h9 z9 => ?_
      exact fin t r2 t2 _ .inv H7 H8 H9 z7 z8 z9 h9 h7 (fun H' e => ⟨t2, rfl, e⟩) h8 trivial (rep_inv hw rep)
    · refine iteN (by decide +kernel) ?_
      walk_at "go"
      refine iteN (by decide +kernel) ?_
      walk_at "go"
      refine iteN (by decide +kernel) ?_
      walk_at "go"
      refine iteN (by decide +kernel) ?_
      walk_at "go"
      refine iteY (by decide +kernel) ?_
      walk_at "go"
      refine w_own hx ⟨r, b, nv, rfl, hb, okb, nv0, by rw [hbw]; exact nv1, by rw [hbw]; exact m1.1, by rw [hbw]; exact m1.2.1, fun r2 H7 h7 z7 => ?_⟩
      walk_at "go"
      rw [hbw, Int.one_mul] at h7
      refine new (show 2 ≤ sizeLine by decide) fun t2 H8 n8 h8 z8 => ?_
      walk_at "go"
      refine new (show 2 ≤ sizeLine by decide) fun t H9 n9 h9 z9 => ?_
      exact fin t r2 t2 _ (.mv nv) H7 H8 H9 z7 z8 z9 h9 h7 (fun H' e => ⟨t2, rfl, e⟩) h8 ⟨by omega, by omega⟩ m1'
    · refine iteN (by decide +kernel) ?_
      walk_at "go"
      refine iteN (by decide +kernel) ?_
      walk_at "go"
      refine iteN (by decide +kernel) ?_
      walk_at "go"
      refine iteN (by decide +kernel) ?_
      walk_at "go"
      refine iteN (by decide +kernel) ?_
      walk_at "go"
      refine iteY (by decide +kernel) ?_
      walk_at "go"
      refine w_own hx ⟨r, b, nv, rfl, hb, okb, nv0, by rw [hbw]; exact nv1, by rw [hbw]; exact m2.1, by rw [hbw]; exact m2.2.1, fun r2 H7 h7 z7 => ?_⟩
      walk_at "go"
      rw [Int.zero_sub]
      rw [hbw, Int.neg_one_mul] at h7
      refine new (show 2 ≤ sizeLine by decide) fun t2 H8 n8 h8 z8 => ?_
      walk_at "go"
      refine new (show 2 ≤ sizeLine by decide) fun t H9 n9 h9 z9 => ?_
      exact fin t r2 t2 _ (.mv (-nv)) H7 H8 H9 z7 z8 z9 h9 h7 (fun H' e => ⟨t2, rfl, e⟩) h8 ⟨by omega, by omega⟩ m2'
    · refine iteN (by decide +kernel) ?_
      walk_at "go"
      refine iteN (by decide +kernel) ?_
      walk_at "go"
      refine iteN (by decide +kernel) ?_
      walk_at "go"
      refine iteN (by decide +kernel) ?_
      walk_at "go"
      refine iteN (by decide +kernel) ?_
      walk_at "go"
      refine iteN (by decide +kernel) ?_
      walk_at "go"
      refine iteY (by decide +kernel) ?_
      walk_at "go"
      refine ⟨_, rfl, ?_⟩
      walk_at "go"
      refine w_own hx ⟨r, b, (wn : Int), rfl, hb, okb, wv0, by rw [hbw]; exact wv1, fun r2 H7 n7 h7 z7 => ?_⟩
      walk_at "go"
      refine new (show 2 ≤ sizeLine by decide) fun t2 H8 n8 h8 z8 => ?_
      walk_at "go"
      refine new (show 2 ≤ sizeLine by decide) fun t H9 n9 h9 z9 => ?_
      exact fin t r2 t2 _ (.and wn) H7 H8 H9 z7 z8 z9 h9 h7 (fun H' e => ⟨t2, rfl, e⟩) h8 hwn (rep_and hw hwn rep)
    · refine iteN (by decide +kernel) ?_
      walk_at "go"
      refine iteN (by decide +kernel) ?_
      walk_at "go"
      refine iteN (by decide +kernel) ?_
      walk_at "go"
      refine iteN (by decide +kernel) ?_
      walk_at "go"
      refine iteN (by decide +kernel) ?_
      walk_at "go"
      refine iteN (by decide +kernel) ?_
      walk_at "go"
      refine iteN (by decide +kernel) ?_
      walk_at "go"
      refine iteY (by decide +kernel) ?_
      walk_at "go"
      refine ⟨_, rfl, ?_⟩
      walk_at "go"
      refine w_own hx ⟨r, b, nv, rfl, hb, okb, nv0, by rw [hbw]; exact nv1, by rw [hbw]; exact m1.1, by rw [hbw]; exact m1.2.1, fun r2 H7 h7 z7 => ?_⟩
      walk_at "go"
      rw [hbw, Int.one_mul] at h7
      refine new (show 2 ≤ sizeLine by decide) fun t2 H8 n8 h8 z8 => ?_
      walk_at "go"
      refine new (show 2 ≤ sizeLine by decide) fun t H9 n9 h9 z9 => ?_
      exact fin t r2 t2 _ (.mv nv) H7 H8 H9 z7 z8 z9 h9 h7 (fun H' e => ⟨t2, rfl, e⟩) h8 ⟨by omega, by omega⟩ m1'
    · refine iteN (by decide +kernel) ?_
      walk_at "go"
      refine iteN (by decide +kernel) ?_
      walk_at "go"
      refine iteN (by decide +kernel) ?_
      walk_at "go"
      refine iteN (by decide +kernel) ?_
      walk_at "go"
      refine iteN (by decide +kernel) ?_
      walk_at "go"
      refine iteN (by decide +kernel) ?_
      walk_at "go"
      refine iteN (by decide +kernel) ?_
      walk_at "go"
      refine iteN (by decide +kernel) ?_
      walk_at "go"
      refine ⟨_, rfl, ?_⟩
      walk_at "go"
      refine w_own hx ⟨r, b, (wn : Int), rfl, hb, okb, wv0, by rw [hbw]; exact wv1, fun r2 H7 n7 h7 z7 => ?_⟩
      walk_at "go"
      refine new (show 2 ≤ sizeLine by decide) fun t2 H8 n8 h8 z8 => ?_
      walk_at "go"
      refine new (show 2 ≤ sizeLine by decide) fun t H9 n9 h9 z9 => ?_
      exact fin t r2 t2 _ (.or wn) H7 H8 H9 z7 z8 z9 h9 h7 (fun H' e => ⟨t2, rfl, e⟩) h8 hwn (rep_or hw hwn rep)
end
end Law

set_option Elab.async false
set_option linter.all false
set_option maxRecDepth 100000
set_option maxHeartbeats 4000000
namespace Law
open PySem PySem.Spec PySem.Calls PyProof.Rows L2 KG LamX
local macro_rules | `(tactic| walk_at "1") => `(tactic| first
  | (with_reducible refine w_var rfl ?_) | (with_reducible refine w_c ?_) | (with_reducible refine w_seq ?_) | (with_reducible refine w_asg ?_) | (with_reducible refine w_gname ?_) | (with_reducible refine w_op ?_) | (with_reducible refine w_un ?_)
  | (with_reducible refine w_add ?_) | (with_reducible refine w_sub ?_) | ((with_reducible refine' w_mod ?mo ?_); (case mo => first | assumption | decide | omega)) | (with_reducible refine w_and ?_) | (with_reducible refine w_or ?_) | (with_reducible refine w_xor ?_)
  | (with_reducible refine w_gt ?_) | (with_reducible refine w_lt ?_) | (with_reducible refine w_ge ?_) | (with_reducible refine w_le ?_) | ((with_reducible refine' w_eq ?sc ?_); (case sc => rfl)) | ((with_reducible refine' w_ne ?sc ?_); (case sc => rfl))
  | (with_reducible refine w_ret ?_) | (with_reducible refine w_next ?_) | (with_reducible refine w_ifs ?_) | (with_reducible refine w_ifx ?_) | (with_reducible refine w_test ?_) | (with_reducible refine w_tB ?_) | (with_reducible refine w_bl ?_)
  | ((with_reducible refine' w_ixL ?ixh ?ixa ?_); (case ixh => first | exact SqL.of (by assumption)); (case ixa => first | rfl | skip)) | ((with_reducible refine' w_ixT ?ixh ?ixa ?_); (case ixh => first | exact SqT.of (by assumption)); (case ixa => first | rfl | skip))
  | ((with_reducible refine' w_fld ?_)) | ((with_reducible refine' fld ?fh ?fc ?fn ?fl ?_); (case fh => assumption); (case fc => assumption); (case fn => assumption); (case fl => rfl)) | (with_reducible refine w_sfld ?_)
  | (with_reducible refine Or.inl ⟨_, rfl, ?_⟩) | (with_reducible refine w_gsub ?_) | (with_reducible refine w_andV ?_) | (with_reducible refine w_orV ?_)
  | (with_reducible refine w_nil ?_) | (with_reducible refine w_cons ?_) | (with_reducible refine w_tup ?_) | (with_reducible refine w_lst ?_) | (with_reducible refine w_and2 ?_) | (with_reducible refine w_or2 ?_) | (with_reducible refine w_not ?_) | (with_reducible refine w_cb ?_) | (with_reducible refine w_call ?_) | (with_reducible refine w_par ?_) | (with_reducible refine w_pnil ?_) | (with_reducible refine w_pcons ?_) | (with_reducible refine w_dput ?_) | (with_reducible refine w_dget ?_) | (with_reducible refine w_for ?_) | (with_reducible refine w_itup ?_) | (with_reducible refine w_ilist ?_) | (with_reducible refine w_irng ?_) | (with_reducible refine w_meth ?_) | (with_reducible refine w_make ?_) | (with_reducible refine w_makeK ?_) | (with_reducible refine w_methK ?_) | ((with_reducible refine' mth ?mh ?ml ?_); (case mh => assumption); (case ml => rfl)) | (with_reducible refine w_drop ?_))
local macro_rules | `(tactic| walk_at "go") => `(tactic| ((repeat (walk_at "1")); try dsimp only))
local macro_rules | `(tactic| walk_at "1") => `(tactic| first
  | (with_reducible refine w_notV ?_) | (with_reducible refine w_callK ?_) | (with_reducible refine w_lc ?_) | (with_reducible refine w_chain ?_) | (with_reducible refine w_neg ?_) | ((with_reducible refine' w_shr ?mo ?_); (case mo => first | assumption | omega)))
/-! ### the normal form that follows from the results -/
theorem bit_div {x m : Nat} : ((x : Int) / 2 ^ m) % 2 = (((x.testBit m).toNat : Nat) : Int) := by
  rw [Nat.toNat_testBit]
  simp
/-- the pair that a tuple holds -/
def kOf (H : Hp) : V → Int × Int
  | .ref t => match H t with
    | some (.tup [.int a, .int b]) => (a, b)
    | _ => (0, 0)
  | _ => (0, 0)
theorem kOf_at {H : Hp} {t : Addr} {p : Int × Int} (h : H t = some (.tup [.int p.1, .int p.2])) : kOf H (.ref t) = p := by
  simp only [kOf, h]
theorem PrA.mem {H : Hp} : ∀ {vs : List V} {ps : List (Int × Int)}, PrA H vs ps → ∀ x ∈ vs, ∃ t p, x = .ref t ∧ H t = some (.tup [.int p.1, .int p.2]) ∧ p ∈ ps
  | _ :: _, p :: _, h, x, hx => by
    rcases List.mem_cons.mp hx with rfl | m
    · obtain ⟨t, e, ht⟩ := h.1
      exact ⟨t, p, e, ht, .head _⟩
    · obtain ⟨t, q, e, ht, hq⟩ := PrA.mem h.2 x m
      exact ⟨t, q, e, ht, .tail _ hq⟩
theorem PrA.srtd {H : Hp} : ∀ {vs : List V} {ps : List (Int × Int)}, PrA H vs ps → ps.Pairwise (fun p q => p.1 < q.1) → SrtO.Srtd (ltP (kOf H)) vs
  | [], [], _, _ => .nil
  | v :: vs, p :: ps, h, u => by
    obtain ⟨u1, u2⟩ := List.pairwise_cons.mp u
    refine List.pairwise_cons.mpr ⟨fun y hy => ?_, PrA.srtd h.2 u2⟩
    obtain ⟨t, e, ht⟩ := h.1
    obtain ⟨t', q, e', ht', hq⟩ := PrA.mem h.2 y hy
    subst e
    subst e'
    show SrtO.lexB (kOf H (.ref t')) (kOf H (.ref t)) = false
    rw [kOf_at ht, kOf_at ht']
    have lt := u1 q hq
    exact SrtO.lexB_no.mpr (by omega)
theorem PrA.keep {H H' : Hp} (s : ∀ t (a b : Int), H t = some (.tup [.int a, .int b]) → H' t = some (.tup [.int a, .int b])) : ∀ {vs : List V} {ps : List (Int × Int)}, PrA H vs ps → PrA H' vs ps
  | [], [], _ => trivial
  | _ :: _, _ :: _, h => let ⟨⟨t, e, h1⟩, h2⟩ := h; ⟨⟨t, e, s _ _ _ h1⟩, PrA.keep s h2⟩
  | [], _ :: _, h => h.elim
  | _ :: _, [], h => h.elim
/-- the same pairs, as data -/
def prD (ps : List (Int × Int)) : PyData := .list (ps.map fun p => .tuple [.int p.1, .int p.2])
theorem PrA.dp {K : PySem.W.Frag} {H : Hp} : ∀ {vs : List V} {ps : List (Int × Int)}, PrA H vs ps → DpAll K H vs (ps.map fun p => PyData.tuple [.int p.1, .int p.2])
  | [], [], _ => .nil
  | _ :: _, _ :: _, h => by
    obtain ⟨t, e, ht⟩ := h.1
    subst e
    exact .cons (.tup (SqT.of ht) (.cons (.int _) (.cons (.int _) .nil))) (PrA.dp h.2)
def spNormal : Sp := fun vs H Q _ => ∃ (w : Int) (L : Addr) (xs : List V) (l : List Stp) (s : Int) (k f : Nat), vs = [.int w, .ref L] ∧ wd w = true ∧ H L = some (.lst xs) ∧ StL H xs l ∧ (∀ x ∈ l, x.ok w) ∧ NumOk w s k f ∧ (∀ v, v < 2 ^ w.toNat → RN w s k f v = doneN w l v) ∧
  ∀ (t M : Addr) (ys : List V) (H' : Hp), Same H H' → H' t = some (.tup [.int (sN w.toNat s k), .int (kN w.toNat s k : Nat), .int (f : Nat), .ref M]) → H' M = some (.lst ys) → PrA H' ys (prs w.toNat s (kN w.toNat s k) w.toNat) → Q (.ref t) H'
section
variable {P : Program} {w : World} {K : PySem.W.Frag} {mg : Str → Option Value} {base : Heap}
theorem ok_normal (D : DefAt K mg "_law_normal" s__law_normal ["_law_width", "_law_steps"]) (B : B1 mg) (gSo : mg "sorted" = none) (c_law_done : Cal P w K mg base 3 "_law_done" spDone) : Cal P w K mg base 4 "_law_normal" spNormal := by
  refine D.cal (k := 3) sc__law_normal (fun vs H Q E h => ?_) (fun f cdv A outer s H vs Q E rm gd h => ?_)
  · obtain ⟨wi, L, xs, l, sh, k, fl, rfl, _⟩ := h
    rfl
  · obtain ⟨wi, L, xs, l, sh, k, fl, rfl, hw, hL, hS, ho, o, hR, q⟩ := h
    have h3 := wd_of hw
    obtain ⟨f0, f1, f2, f3⟩ := wd_fw hw
    have d0 : doneN wi l 0 = fl := by
      rw [← hR 0 (Nat.pow_pos (by decide))]
      exact FN_zero
    refine ⟨_, (pss_cons (ps_set (i := 2) sc__law_normal.nd rfl (Or.inl rfl) (pc c_law_done rm (by decide) gd rfl (pa_cons (pv 0) (pa_cons (pv 1) (pa_cons pe_int pa_nil)))))
    (pss_cons (ps_par3 (i := 3) (j := 4) (l := 5) rfl sc__law_normal.nd rfl rfl rfl (by decide) (by decide) (by decide) rfl rfl rfl (pa_cons pe_int (pa_cons pe_int (pa_cons (pe_lst pa_nil) pa_nil))) (by rfl))
    (pss_cons (ps_for PassesOwn.never rfl (pi_range1 rfl B.g_range (pa_cons (pv 0) pa_nil)) (pg_name (i := 6) sc__law_normal.nd rfl (Or.inl rfl))
      (pss_cons (ps_set (i := 7) sc__law_normal.nd rfl (Or.inr rfl) (pe_op op_xor (pc c_law_done rm (by decide) gd rfl (pa_cons (pv 0) (pa_cons (pv 1) (pa_cons (pe_op op_shl pe_int (pv 6)) pa_nil)))) (pv 2)))
      (pss_cons (ps_setLc (i := 8) (own := [("_law_place", 9)]) (g := (gName 9)) (by rfl) sc__law_normal.nd rfl rfl (sw_true rfl rfl rfl (by decide +kernel)) (pi_range1 rfl B.g_range (pa_cons (pv 0) pa_nil)) (blkOk_by (own := [("_law_place", 9)]) (N := ["_law_width", "_law_steps", "_law_flip", "_law_keep", "_law_shift", "_law_sources", "_law_source", "_law_column", "_law_places", "_law_place"]) (sc := defScope s__law_normal) (by decide +kernel)) (fun _ _ _ _ _ => (pg_name (i := 9) sc__law_normal.nd rfl (Or.inl rfl))) (fun _ _ _ _ _ => (pts_one (pt_cmpR op_eq (pe_op op_and (pe_op op_shr (pv 7) (pv 9)) pe_int) pe_int (nomark _)))) (fun _ _ _ _ _ => (pv 9)))
      (pss_cons (ps_if (pt_cmpR op_gt (pe_callB call_len_seq (by rfl) B.g_len (by decide +kernel) (pa_cons (pv 8) pa_nil)) pe_int (nomark _))
        (pss_one (ps_ret pe_non))
        pss_nil)
      (pss_one (ps_if (pt_cmpR (op_neD rm.units) (pv 8) (pe_lst pa_nil) (nomark _))
        (pss_cons (ps_par (i := 3) (j := 4) rfl sc__law_normal.nd rfl rfl (by decide) rfl rfl (pa_cons (pe_op op_or (pv 3) (pv 7)) (pa_cons (pe_op op_sub (pe_ix ix_list (pv 8) pe_int (fun _ _ => rfl)) (pv 6)) pa_nil)) (by rfl))
        (pss_one (ps_expr (pe_bm PySem.F.plainAttrs_list PySem.F.slot_list_append PySem.F.type_list_append mt_append (pv 5) (pa_cons (pe_tup (pa_cons (pe_ix ix_list (pv 8) pe_int (fun _ _ => rfl)) (pa_cons (pv 6) pa_nil))) pa_nil)))))
        pss_nil))))))
    (pss_one (ps_ret (pe_tup (pa_cons (pv 4) (pa_cons (pv 3) (pa_cons (pv 2) (pa_cons (pe_callB cr_sortedPO (by rfl) gSo (by decide +kernel) (pa_cons (pv 5) pa_nil)) pa_nil)))))))))), ?_⟩
    walk_at "go"
    refine ⟨wi, L, xs, l, 0, rfl, hw, hL, hS, ho, Nat.pow_pos (by decide), fun H1 z1 => ?_⟩
    rw [d0]
    walk_at "go"
    refine w_par3 ?_
    walk_at "go"
    refine new (show 0 ≤ sizeLine by decide) fun M H2 nM hM z2 => ?_
    refine ⟨_, _, _, rfl, ?_⟩
    walk_at "go"
    have nML : M ≠ L := fun z => by
      have := z1 _ _ hL
      rw [z, this] at nM
      cases nM
    refine over_r (by show -(2 ^ 62) ≤ wi; omega) (by show wi < 2 ^ 62; omega) (for_range (n := wi.toNat) (fun i σ H' => (∃ (c : Nat) (v6 v7 v8 v9 : Option V), KpOk wi.toNat sh k i c ∧ σ = [some (.int wi), some (.ref L), some (.int (fl : Nat)), some (.int (c : Nat)), some (.int (shO wi.toNat sh k i)), some (.ref M), v6, v7, v8, v9]) ∧
      (∀ b u, H1 b = some u → H' b = some u) ∧ ∃ ys, H' M = some (.lst ys) ∧ PrA H' ys (prs wi.toNat sh (kN wi.toNat sh k) i)) ?_ ?_ ?_)
    · refine ⟨⟨0, none, none, none, none, kp_zero, ?_⟩, fun b u e => z2 b u e, [], hM, ?_⟩
      · have e0 : prs wi.toNat sh (kN wi.toNat sh k) 0 = [] := prs_zero fun j h => (kN_ge h).1
        unfold shO
        rw [e0, if_pos rfl]
        rfl
      · have e0 : prs wi.toNat sh (kN wi.toNat sh k) 0 = [] := prs_zero fun j h => (kN_ge h).1
        rw [e0]
        trivial
    · rintro i σ H3 hi ⟨⟨c, v6, v7, v8, v9, kc, rfl⟩, z3, ys, hM3, pr⟩
      have zH : Same H H3 := fun b u e => z3 b u (z1 b u e)
      have p2 : (2 : Nat) ^ i < 2 ^ wi.toNat := Nat.pow_lt_pow_right (by decide) hi
      rw [Int.zero_add]
      walk_at "go"
      refine w_shl ⟨by omega, by omega, by decide⟩ ?_
      rw [show (1 * 2 ^ ((i : Nat) : Int).toNat : Int) = ((2 ^ i : Nat) : Int) by rw [Int.toNat_natCast, Int.one_mul]; simp]
      walk_at "go"
      refine ⟨wi, L, xs, l, 2 ^ i, rfl, hw, zH _ _ hL, hS.same zH, ho, p2, fun H4 z4 => ?_⟩
      rw [← hR _ p2]
      walk_at "go"
      rw [Bits.bitXor_pp (Int.natCast_nonneg _) (Int.natCast_nonneg _), Int.toNat_natCast, Int.toNat_natCast]
      have ecol : RN wi sh k fl (2 ^ i) ^^^ fl = FN wi.toNat sh (kN wi.toNat sh k) fl (2 ^ i) ^^^ fl := rfl
      generalize hcol : RN wi sh k fl (2 ^ i) ^^^ fl = col at ecol ⊢
      walk_at "go"
      refine over_r (by show -(2 ^ 62) ≤ wi; omega) (by show wi < 2 ^ 62; omega) ?_
      intro D1 nD1
      have zD : Same H4 (upd H4 D1 (.lst [])) := fun b u e => by
        rw [upd_ne (ne_of_none e nD1)]
        exact e
      have hM4 := z4 _ _ hM3
      refine lc_range (lo := 0) (n := wi.toNat) (fun n H' => H' D1 = some (.lst ((plc n sh (kN wi.toNat sh k) i).map V.int)) ∧ Same H4 H') ⟨by rw [plc_zero]; exact upd_same, zD⟩ (fun n H5 hn ⟨hD, z5⟩ => ?_) (fun H5 ⟨hD, z5⟩ => ?_)
      · rw [Int.zero_add]
        walk_at "go"
        refine ⟨rfl, ?_⟩
        walk_at "go"
        rw [PyProof.Rows.bitAnd_m1, Int.toNat_natCast, bit_div]
        have es := plc_succ (n := n) (s := sh) (k := k) (f := fl) hi
        rw [← ecol] at es
        rw [show decide (V.int (((col.testBit n).toNat : Nat) : Int) = V.int 1) = col.testBit n by cases col.testBit n <;> rfl]
        cases hb : col.testBit n with
        | false =>
          refine iteF ?_
          rw [hb] at es
          simp only [Bool.false_eq_true, if_false, List.append_nil] at es
          rw [es]
          exact ⟨hD, z5⟩
        | true =>
          refine iteT ?_
          rw [hb] at es
          simp only [if_true] at es
          walk_at "go"
          refine ⟨_, hD, ?_, ?_, fun b u e => ?_⟩
          · rw [List.length_map]
            unfold plc
            split
            · show 1 < sizeLine
              decide
            · show 0 < sizeLine
              decide
          · rw [upd_same, es, List.map_append]
            rfl
          · rw [upd_ne (ne_of_none e nD1)]
            exact z5 _ _ e
      walk_at "go"
      have hM5 := z5 _ _ hM4
      have pr5 := (pr.same z4).same z5
      have z15 : ∀ b u, H1 b = some u → H5 b = some u := fun b u e => z5 _ _ (z4 _ _ (z3 _ _ e))
      refine ⟨D1, (plc wi.toNat sh (kN wi.toNat sh k) i).map V.int, rfl, .inl (SqL.of hD), ?_⟩
      rw [List.length_map]
      walk_at "go"
      cases hh : hit wi.toNat sh (kN wi.toNat sh k) i with
      | false =>
        have epl : plc wi.toNat sh (kN wi.toNat sh k) i = [] := by
          unfold plc
          rw [hh]
          rfl
        rw [epl] at hD ⊢
        refine iteN (show decide ((1 : Int) < ((0 : Nat) : Int)) = false by decide) ?_
        walk_at "go"
        refine new (show 0 ≤ sizeLine by decide) fun e1 H6 n6 h6 z6 => ?_
        refine ⟨.list [], .list [], .lst (SqL.of (z6 _ _ hD)) .nil, .lst (SqL.of h6) .nil, by decide +kernel, by decide +kernel, ?_⟩
        walk_at "go"
        refine iteN (by decide +kernel) ?_
        walk_at "go"
        refine ⟨⟨c, some (.int (i : Int)), some (.int (col : Int)), some (.ref D1), v9, kp_off hh kc, ?_⟩, fun b u e => z6 _ _ (z15 b u e), ys, z6 _ _ hM5, ?_⟩
        · rw [sh_off hh]
          rfl
        · rw [prs_succ, hh]
          simp only [Bool.false_eq_true, if_false, List.append_nil]
          exact pr5.same z6
      | true =>
        have epl : plc wi.toNat sh (kN wi.toNat sh k) i = [(i : Int) + sh] := by
          unfold plc
          rw [hh]
          rfl
        rw [epl] at hD ⊢
        refine iteN (show decide ((1 : Int) < ((1 : Nat) : Int)) = false by decide) ?_
        walk_at "go"
        refine new (show 0 ≤ sizeLine by decide) fun e1 H6 n6 h6 z6 => ?_
        refine ⟨.list [.int ((i : Int) + sh)], .list [], .lst (SqL.of (z6 _ _ hD)) (.cons (.int _) .nil), .lst (SqL.of h6) .nil, sh_ints [(i : Int) + sh], by decide +kernel, ?_⟩
        walk_at "go"
        refine iteY (by simp only [PyData.eqv, PyData.eqvAll]; rfl) ?_
        walk_at "go"
        refine w_ixL (SqL.of (z6 _ _ hD)) rfl ?_
        walk_at "go"
        refine ⟨_, _, rfl, ?_⟩
        walk_at "go"
        refine w_bm ?_
        walk_at "go"
        have hM6 := z6 _ _ hM5
        refine ⟨ty_list hM6, ?_⟩
        walk_at "go"
        refine w_ixL (SqL.of (z6 _ _ hD)) rfl ?_
        walk_at "go"
        refine new (show 2 ≤ sizeLine by decide) fun t7 H7 n7 h7 z7 => ?_
        walk_at "go"
        have pr7 := (pr5.same z6).same z7
        have len := pr7.length
        have hM7 := z7 _ _ hM6
        have le := prs_len (w := wi.toNat) (s := sh) (k := kN wi.toNat sh k) (i := i)
        refine w_app hM7 (by rw [len]; exact Nat.lt_of_le_of_lt le (Nat.lt_of_le_of_lt (show wi.toNat ≤ 32 by omega) (by decide))) rfl fun H8 h8 e8 => ?_
        have ne : ∀ {t : Addr} {xs : List V}, H7 t = some (.tup xs) → t ≠ M := fun {t xs} e z => by
          rw [z, hM7] at e
          cases e
        have pr8 : PrA H8 ys (prs wi.toNat sh (kN wi.toNat sh k) i) := PrA.keep (fun t a b e => (e8 t (ne e)).trans e) pr7
        have ek : Builtin.bitOr (c : Int) (col : Int) = ((c ||| col : Nat) : Int) := by
          rw [Bits.bitOr_pp (Int.natCast_nonneg _) (Int.natCast_nonneg _)]
          rfl
        have es : (i : Int) + sh - (i : Int) = shO wi.toNat sh k (i + 1) := by
          rw [sh_on hh]
          omega
        refine ⟨⟨c ||| col, some (.int (i : Int)), some (.int (col : Int)), some (.ref D1), v9, by rw [ecol]; exact kp_on hi kc, ?_⟩, fun b u e => ?_, ys ++ [.ref t7], h8, ?_⟩
        · show [_, _, _, some (V.int (Builtin.bitOr (c : Int) (col : Int))), some (V.int ((i : Int) + sh - (i : Int))), _, _, _, _, _] = _
          rw [ek, es]
        · have e7 := z7 _ _ (z6 _ _ (z15 b u e))
          refine (e8 b fun z => ?_).trans e7
          rw [z] at e
          rw [nM] at e
          cases e
        · rw [prs_succ, hh]
          simp only [if_true]
          exact PrA.snoc (p := ((i : Int) + sh, (i : Int))) ((e8 t7 (ne h7)).trans h7) pr8
    · rintro σ H3 ⟨⟨c, v6, v7, v8, v9, kc, rfl⟩, z3, ys, hM3, pr⟩
      rw [sh_end, kp_end kc]
      walk_at "go"
      refine ⟨M, ys, kOf H3, rfl, SqL.of hM3, fun x hx => ?_, fun ys' p s1 s2 np => ?_⟩
      · obtain ⟨t, pp, e, ht, _⟩ := pr.mem x hx
        subst e
        exact ⟨t, rfl, by rw [kOf_at ht]; exact ht⟩
      · have ey : ys' = ys := SrtO.stb_uniq (ltP_swo _) s1 (pr.srtd prs_up) s2
        subst ey
        have z4 : Same H3 (upd H3 p (.lst ys')) := fun b u e => by
          rw [upd_ne (ne_of_none e np)]
          exact e
        walk_at "go"
        refine new (show 4 ≤ sizeLine by decide) fun t H5 n5 h5 z5 => ?_
        exact q t p ys' H5 (fun b u e => z5 _ _ (z4 _ _ (z3 _ _ (z1 _ _ e)))) h5 (z5 _ _ upd_same) ((pr.same z4).same z5)
end
end Law

set_option Elab.async false
set_option linter.all false
set_option maxRecDepth 100000
set_option maxHeartbeats 4000000
namespace Law
open PySem PySem.Spec PySem.Calls PyProof.Rows L2 KG LamX
local macro_rules | `(tactic| walk_at "1") => `(tactic| first
  | (with_reducible refine w_var rfl ?_) | (with_reducible refine w_c ?_) | (with_reducible refine w_seq ?_) | (with_reducible refine w_asg ?_) | (with_reducible refine w_gname ?_) | (with_reducible refine w_op ?_) | (with_reducible refine w_un ?_)
  | (with_reducible refine w_add ?_) | (with_reducible refine w_sub ?_) | ((with_reducible refine' w_mod ?mo ?_); (case mo => first | assumption | decide | omega)) | (with_reducible refine w_and ?_) | (with_reducible refine w_or ?_) | (with_reducible refine w_xor ?_)
  | (with_reducible refine w_gt ?_) | (with_reducible refine w_lt ?_) | (with_reducible refine w_ge ?_) | (with_reducible refine w_le ?_) | ((with_reducible refine' w_eq ?sc ?_); (case sc => rfl)) | ((with_reducible refine' w_ne ?sc ?_); (case sc => rfl))
  | (with_reducible refine w_ret ?_) | (with_reducible refine w_next ?_) | (with_reducible refine w_ifs ?_) | (with_reducible refine w_ifx ?_) | (with_reducible refine w_test ?_) | (with_reducible refine w_tB ?_) | (with_reducible refine w_bl ?_)
  | ((with_reducible refine' w_ixL ?ixh ?ixa ?_); (case ixh => first | exact SqL.of (by assumption)); (case ixa => first | rfl | skip)) | ((with_reducible refine' w_ixT ?ixh ?ixa ?_); (case ixh => first | exact SqT.of (by assumption)); (case ixa => first | rfl | skip))
  | ((with_reducible refine' w_fld ?_)) | ((with_reducible refine' fld ?fh ?fc ?fn ?fl ?_); (case fh => assumption); (case fc => assumption); (case fn => assumption); (case fl => rfl)) | (with_reducible refine w_sfld ?_)
  | (with_reducible refine Or.inl ⟨_, rfl, ?_⟩) | (with_reducible refine w_gsub ?_) | (with_reducible refine w_andV ?_) | (with_reducible refine w_orV ?_)
  | (with_reducible refine w_nil ?_) | (with_reducible refine w_cons ?_) | (with_reducible refine w_tup ?_) | (with_reducible refine w_lst ?_) | (with_reducible refine w_and2 ?_) | (with_reducible refine w_or2 ?_) | (with_reducible refine w_not ?_) | (with_reducible refine w_cb ?_) | (with_reducible refine w_call ?_) | (with_reducible refine w_par ?_) | (with_reducible refine w_pnil ?_) | (with_reducible refine w_pcons ?_) | (with_reducible refine w_dput ?_) | (with_reducible refine w_dget ?_) | (with_reducible refine w_for ?_) | (with_reducible refine w_itup ?_) | (with_reducible refine w_ilist ?_) | (with_reducible refine w_irng ?_) | (with_reducible refine w_meth ?_) | (with_reducible refine w_make ?_) | (with_reducible refine w_makeK ?_) | (with_reducible refine w_methK ?_) | ((with_reducible refine' mth ?mh ?ml ?_); (case mh => assumption); (case ml => rfl)) | (with_reducible refine w_drop ?_))
local macro_rules | `(tactic| walk_at "go") => `(tactic| ((repeat (walk_at "1")); try dsimp only))
local macro_rules | `(tactic| walk_at "1") => `(tactic| first
  | (with_reducible refine w_notV ?_) | (with_reducible refine w_callK ?_) | (with_reducible refine w_lc ?_) | (with_reducible refine w_chain ?_) | (with_reducible refine w_neg ?_) | ((with_reducible refine' w_shr ?mo ?_); (case mo => first | assumption | omega)))
def rReprO (C : Addr) (sp : Sp) (E : XK) : List V → Hp → VK → Prop := fun xs H Q => ∃ a dx fs, xs = [.ref a] ∧ H a = some (.ins C dx fs) ∧ sp [.ref a] H (fun v H' => ∃ z, v = .str z ∧ Q (.str z) H') E
theorem call_reprO {X : Cx} {CX : CXT} {k : Nat} {f C : Addr} {fd : FuncData} {ps : List Str} {sp : Sp} {E : XK} (F : Gd X.prog X.w X.K X.mg X.base CX k f fd ps sp) (rm : Room (k + 1) X.A) (gd : X.A.guards = some []) (hs : PySem.W.findIn X.K (.ref C) "__repr__" = some (some (.ref f))) (hf : PySem.W.isFn X.K (.ref f) = true)
    (hb : Binds X.K fd ps []) (hx : Passes CX X E) : CallR X (.builtin "repr") (rReprO C sp E) := by
  intro pins s σ H xs us Q I r h
  obtain ⟨a, dx, fs, rfl, ea, q⟩ := h
  obtain ⟨u, rfl, ru⟩ := vals1 r
  cases (show u = Value.ref a from ru)
  obtain ⟨mA, J, _⟩ := ins_get I.hok ea
  obtain ⟨od, J, _⟩ := J.look
  obtain ⟨m, fr⟩ := I.fr
  have room := rm.units
  have one : Vals [V.ref a] [Value.ref a] := .cons rfl .nil
  have bt := bind_pos (dvs := []) (vs := [V.ref a]) F hb .nil I.kIn one q
  refine PySem.W.repr_K (by show X.A.units + 1 < cLine; omega) fr I.ok.mod.kin J hs hf ?_
  refine wpAny_mono (run_at (us := [.ref a]) F rm.in1 (in1_gd gd) I.env0.in1 (fun e s' he => hx pins σ H s e s' I he) I bt one q) (fun v s' hv => ?_) fun _ _ z => z
  obtain ⟨y, H', J', ry, z, ey, q'⟩ := hv
  subst ey
  obtain ⟨t, rfl⟩ := ry
  exact ⟨.str z, H', J', ⟨t, rfl⟩, q'⟩
/-! ### what is shown -/
theorem nat_show {w : Int} {n : Nat} (h : wd w = true) (hn : n < 2 ^ w.toNat) : (PyData.int (n : Nat)).showable = true ∧ (PyData.int (n : Nat)).hasDict = false ∧ (PyData.int (n : Nat)).depth ≤ 40 ∧ (PyData.int (n : Nat)).shown.length ≤ sizeLine := by
  have z := (fw_pow h).mpr hn
  obtain ⟨f0, f1, f2, f3⟩ := wd_fw h
  have lg := log_small (i := (n : Int)) (by omega)
  refine ⟨?_, by simp [PyData.hasDict], by simp [PyData.depth], ?_⟩
  · simp only [PyData.showable]
    exact decide_eq_true lg
  · rw [PyData.shown_int]
    exact Nat.le_trans (int_len (i := (n : Int)) (by omega)) (by decide)
def small (i : Int) : Prop := i.natAbs < 10 ^ 10
theorem small_short {i : Int} (h : small i) : (PyData.shown (.int i)).length ≤ 13 := PyData.shown_int_le (Nat.lt_of_lt_of_le h (by decide))
theorem small_w {i : Int} (h : small i) : PyData.weight (.int i) ≤ 40 := by
  simp only [PyData.weight]
  split
  · exact Nat.zero_le _
  · have : i.natAbs.log2 < 40 := by
      by_cases z : i.natAbs = 0
      · rw [z]; decide
      · rw [Nat.log2_lt z]
        exact Nat.lt_of_lt_of_le h (by decide)
    omega
theorem small_show {i : Int} (h : small i) : (PyData.int i).showable = true := by
  simp only [PyData.showable]
  exact decide_eq_true (log_small h)
/-- whole numbers in a tuple -/
theorem tup_show : ∀ (ns : List Int), (∀ i ∈ ns, small i) → ns.length ≤ 10 → (PyData.tuple (ns.map .int)).showable = true ∧ (PyData.tuple (ns.map .int)).hasDict = false ∧ (PyData.tuple (ns.map .int)).depth ≤ 40 ∧ (PyData.tuple (ns.map .int)).shown.length ≤ sizeLine := by
  intro ns hs hl
  have a : ∀ ns : List Int, (∀ i ∈ ns, small i) → PyData.showableAll (ns.map .int) = true ∧ PyData.hasDictAll (ns.map .int) = false ∧ PyData.depthAll (ns.map .int) = 0 ∧ PyData.leavesShortAll 13 (ns.map .int) = true ∧ PyData.weightAll (ns.map .int) ≤ 41 * ns.length := by
    intro ns
    induction ns with
    | nil => exact fun _ => ⟨rfl, rfl, rfl, rfl, Nat.le_refl _⟩
    | cons i ns ih =>
      intro h
      obtain ⟨h1, h2, h3, h4, h5⟩ := ih fun j m => h j (.tail _ m)
      have hi := h i (.head _)
      refine ⟨?_, ?_, ?_, ?_, ?_⟩
      · simp only [List.map_cons, PyData.showableAll, small_show hi, h1, Bool.and_self]
      · simp only [List.map_cons, PyData.hasDictAll, h2, PyData.hasDict, Bool.or_self]
      · simp only [List.map_cons, PyData.depthAll, h3, PyData.depth, Nat.max_self]
      · simp only [List.map_cons, PyData.leavesShortAll, h4, PyData.leavesShort, decide_eq_true (small_short hi), Bool.and_self]
      · simp only [List.map_cons, PyData.weightAll, List.length_cons]
        have := small_w hi
        omega
  obtain ⟨h1, h2, h3, h4, h5⟩ := a ns hs
  refine ⟨by simp only [PyData.showable, h1], by simp only [PyData.hasDict, h2], by simp only [PyData.depth, h3]; decide, PyData.shown_fits (B := 13) (by decide) (by decide) (by simp only [PyData.leavesShort, h4]) ?_⟩
  simp only [PyData.weight]
  omega
theorem prD_show : ∀ (ps : List (Int × Int)), (∀ p ∈ ps, small p.1 ∧ small p.2) → ps.length ≤ 40 → (prD ps).showable = true ∧ (prD ps).hasDict = false ∧ (prD ps).depth ≤ 40 ∧ (prD ps).shown.length ≤ sizeLine := by
  intro ps hs hl
  have a : ∀ ps : List (Int × Int), (∀ p ∈ ps, small p.1 ∧ small p.2) → PyData.showableAll (ps.map fun p => .tuple [.int p.1, .int p.2]) = true ∧ PyData.hasDictAll (ps.map fun p => .tuple [.int p.1, .int p.2]) = false ∧
      PyData.depthAll (ps.map fun p => .tuple [.int p.1, .int p.2]) ≤ 1 ∧ PyData.leavesShortAll 13 (ps.map fun p => .tuple [.int p.1, .int p.2]) = true ∧ PyData.weightAll (ps.map fun p => .tuple [.int p.1, .int p.2]) ≤ 83 * ps.length := by
    intro ps
    induction ps with
    | nil => exact fun _ => ⟨rfl, rfl, Nat.zero_le _, rfl, Nat.le_refl _⟩
    | cons p ps ih =>
      intro h
      obtain ⟨h1, h2, h3, h4, h5⟩ := ih fun j m => h j (.tail _ m)
      obtain ⟨hi, hj⟩ := h p (.head _)
      refine ⟨?_, ?_, ?_, ?_, ?_⟩
      · simp only [List.map_cons, PyData.showableAll, PyData.showable, h1, Bool.and_self, decide_eq_true (log_small hi), decide_eq_true (log_small hj)]
      · simp only [List.map_cons, PyData.hasDictAll, h2, PyData.hasDict, Bool.or_self]
      · simp only [List.map_cons, PyData.depthAll, PyData.depth, Nat.max_self]
        omega
      · simp only [List.map_cons, PyData.leavesShortAll, h4, PyData.leavesShort, decide_eq_true (small_short hi), decide_eq_true (small_short hj), Bool.and_self]
      · have wi := small_w hi
        have wj := small_w hj
        simp only [PyData.weight] at wi wj
        simp only [List.map_cons, PyData.weightAll, PyData.weight, List.length_cons]
        omega
  obtain ⟨h1, h2, h3, h4, h5⟩ := a ps hs
  refine ⟨by simp only [prD, PyData.showable, h1], by simp only [prD, PyData.hasDict, h2], by simp only [prD, PyData.depth]; omega, PyData.shown_fits (B := 13) (by decide) (by decide) (by simp only [prD, PyData.leavesShort, h4]) ?_⟩
  simp only [prD, PyData.weight]
  omega
theorem bool_show (b : Bool) : (PyData.bool b).showable = true ∧ (PyData.bool b).hasDict = false ∧ (PyData.bool b).depth ≤ 40 ∧ (PyData.bool b).shown.length ≤ sizeLine := by
  cases b <;> decide +kernel
theorem bit_and {x m : Nat} : Builtin.bitAnd ((x : Int) / 2 ^ m) 1 = (((x.testBit m).toNat : Nat) : Int) := by
  rw [PyProof.Rows.bitAnd_m1, bit_div]
theorem srcs_eq {w s : Int} {k f : Nat} : srcs (BN w s k f) (BN w s k f).w.toNat = prs w.toNat s (kN w.toNat s k) w.toNat := by
  rw [prs_end]
  unfold srcs
  show ((List.range w.toNat).filter fun j : Nat => decide (Builtin.bitAnd (((kN w.toNat s k : Nat) : Int) / 2 ^ j) 1 = 1)).map (fun j : Nat => ((j : Int), (j : Int) - sN w.toNat s k)) = _
  congr 1
  refine List.filter_congr fun j _ => ?_
  rw [bit_and]
  cases (kN w.toNat s k).testBit j <;> rfl
theorem rp_join {b : Bq} : ("Blend(" : Str) ++ Txt.join (", " : Str) [((toString b.w : String) : Str), ((toString b.s : String) : Str), ((toString b.k : String) : Str), ((toString b.f : String) : Str)] ++ (")" : Str) = rp b := by
  rw [TL.join_eq]
  unfold rp Str.join Str.join Str.join Str.join
  simp only [Str.empty_append, Str.append_assoc]
theorem rp_len {b : Bq} (b1 : b.w.natAbs < 10 ^ 10) (b2 : b.s.natAbs < 10 ^ 10) (b3 : b.k.natAbs < 10 ^ 10) (b4 : b.f.natAbs < 10 ^ 10) : (rp b).length ≤ 8010 := by
  have e0 : (Str.empty ++ ("Blend(" : Str)).length ≤ 6 := ln (n := 0) (m := 6) (Nat.le_refl _) (by decide) (by decide)
  have e1 := ln e0 (int_len b1) (k := 2000) (by decide)
  have e2 := ln e1 (b := (", " : Str)) (m := 2) (k := 2010) (by decide) (by decide)
  have e3 := ln e2 (int_len b2) (k := 4000) (by decide)
  have e4 := ln e3 (b := (", " : Str)) (m := 2) (k := 4010) (by decide) (by decide)
  have e5 := ln e4 (int_len b3) (k := 6000) (by decide)
  have e6 := ln e5 (b := (", " : Str)) (m := 2) (k := 6010) (by decide) (by decide)
  have e7 := ln e6 (int_len b4) (k := 8000) (by decide)
  exact ln e7 (b := (")" : Str)) (m := 1) (k := 8010) (by decide) (by decide)
theorem int_lenP {i : Int} (h : small i) : (((toString i : String) : Str)).length ≤ 1921 := int_len h
def valsN (w : Int) (ws : List Nat) : List Nat := [0, fullN w.toNat] ++ (List.range w.toNat).map (2 ^ ·) ++ ws
theorem vals_lt {w : Int} {ws : List Nat} (hw : ∀ v ∈ ws, v < 2 ^ w.toNat) : ∀ v ∈ valsN w ws, v < 2 ^ w.toNat := fun v hv => by
  unfold valsN at hv
  rcases List.mem_append.mp hv with h | h
  · rcases List.mem_append.mp h with h | h
    · rcases List.mem_cons.mp h with rfl | h
      · exact Nat.pow_pos (by decide)
      · rw [List.mem_singleton.mp h]
        exact full_lt _
    · obtain ⟨i, hi, rfl⟩ := List.mem_map.mp h
      exact Nat.pow_lt_pow_right (by decide) (List.mem_range.mp hi)
  · exact hw v h
def spRight (C : Addr) : Sp := fun vs H Q _ => ∃ (x : Addr) (b : Bq) (w : Int) (L : Addr) (xs : List V) (l : List Stp) (lw : Addr) (ws : List Nat), vs = [.ref x, .int w, .ref L, .ref lw] ∧ wd w = true ∧ BlAt C H x b ∧ Rep w b (doneN w l) ∧
  H L = some (.lst xs) ∧ StL H xs l ∧ (∀ x ∈ l, x.ok w) ∧ H lw = some (.lst (ws.map fun v => V.int ((v : Nat) : Int))) ∧ (∀ v ∈ ws, v < 2 ^ w.toNat) ∧ ws.length ≤ 3 ∧ ∀ H', Same H H' → Q (.bl true) H'
section
variable {P : Program} {w : World} {K : PySem.W.Frag} {mg : Str → Option Value} {base : Heap} {C aL aP c0 : Addr} {tl : Int → Addr}
theorem ok_right {fC fR gP pIC fS : Addr} {fdC fdR fdI fdS : FuncData} (D : DefAt K mg "_law_right" s__law_right ["_law_blend", "_law_width", "_law_steps", "_law_words"]) (T : T1 K w mg C aL aP tl) (B : B1 mg)
    (c_law_top : Cal P w K mg base 1 "_law_top" spTop) (c_law_done : Cal P w K mg base 3 "_law_done" spDone) (c_law_normal : Cal P w K mg base 4 "_law_normal" spNormal)
    (oC1 : PySem.W.findIn K (.ref C) "__call__" = some (some (.ref fC))) (oC2 : PySem.W.isFn K (.ref fC) = true) (oC3 : PySem.W.fnIn K fC = true) (FCA : Gd P w K mg base CX0 4 fC fdC ["self", "value"] (spCal C)) (bCA : Binds K fdC ["self", "value"] [])
    (FRP : Gd P w K mg base CX0 1 fR fdR ["self"] (spRp C)) (bRP : Binds K fdR ["self"] []) (rpI : PySem.W.findIn K (.ref C) "__repr__" = some (some (.ref fR))) (rpF : PySem.W.isFn K (.ref fR) = true)
    (PIC : PropOf K C "is_constant" pIC gP) (GIC : Gd P w K mg base (L2.CX P w) 1 gP fdI ["self"] (spIsC C)) (bIC : Binds K fdI ["self"] [])
    (mSrc : Meth K C "sources" fS) (GSrc : GFn P w K mg base 3 fS fdS ["self"] (spSrc C)) (bSrc : Binds K fdS ["self"] []) : Cal P w K mg base 7 "_law_right" (spRight C) := by
  refine D.cal (k := 6) sc__law_right (fun vs H Q E h => ?_) (fun f cdv A outer s H vs Q E rm gd h => ?_)
  · obtain ⟨x, b, wi, L, xs, l, lw, ws, rfl, _⟩ := h
    rfl
  · obtain ⟨x, b, wi, L, xs, l, lw, ws, rfl, hw, hb, rep, hL, hS, ho, hW, hwl, hwn, q⟩ := h
    have h3 := wd_of hw
    obtain ⟨f0, f1, f2, f3⟩ := wd_fw hw
    obtain ⟨sh, k, fl, o, rfl, hR⟩ := rep
    have okb := BN_ok hw o
    have o1 := BN_num hw o
    have rm4 := rm.mono (show 4 ≤ 6 by decide)
    have rm2 := rm.mono (show 2 ≤ 6 by decide)
    have cl := T.cl
    have nW := T.nW
    have nS := T.nS
    have nK := T.nK
    have nF := T.nF
    refine ⟨_, (pss_cons (ps_for PassesOwn.never rfl (pi_list (pe_op op_cat (pe_op op_cat (pe_lst (pa_cons pe_int (pa_cons (pc c_law_top rm (by decide) gd rfl (pa_cons (pv 1) pa_nil)) pa_nil))) (pe_lc (own := [("_law_k", 5)]) (g := (gName 5)) (by rfl) sc__law_right.nd (pi_range1 rfl B.g_range (pa_cons (pv 1) pa_nil)) (blkOk_by (own := [("_law_k", 5)]) (N := ["_law_blend", "_law_width", "_law_steps", "_law_words", "_law_value", "_law_k", "_law_shift", "_law_keep", "_law_flip", "_law_sources", "_law_one"]) (sc := defScope s__law_right) (by decide +kernel)) (fun _ _ _ _ _ => (pg_name (i := 5) sc__law_right.nd rfl (Or.inl rfl))) (fun _ _ _ _ _ => pts_nil) (fun _ _ _ _ _ => (pe_op op_shl pe_int (pv 5))))) (pv 3))) (pg_name (i := 4) sc__law_right.nd rfl (Or.inl rfl))
      (pss_one (ps_if (pt_cmpR op_ne (pe_callB (call_repr rm gd) (by rfl) B.g_repr (by decide +kernel) (pa_cons (pe_ownC (n := 0) oC1 oC2 oC3 FCA rm4 gd bCA pass0 (pv 0) (pa_cons (pv 4) pa_nil)) pa_nil)) (pe_callB (call_repr rm gd) (by rfl) B.g_repr (by decide +kernel) (pa_cons (pc c_law_done rm (by decide) gd rfl (pa_cons (pv 1) (pa_cons (pv 2) (pa_cons (pv 4) pa_nil)))) pa_nil)) (nomark _))
        (pss_one (ps_ret pe_bl))
        pss_nil)))
    (pss_cons (ps_asg (pc c_law_normal rm (by decide) gd rfl (pa_cons (pv 1) (pa_cons (pv 2) pa_nil))) (pg_tup rfl (pgs_cons (pg_name (i := 6) sc__law_right.nd rfl (Or.inl rfl)) (pgs_cons (pg_name (i := 7) sc__law_right.nd rfl (Or.inl rfl)) (pgs_cons (pg_name (i := 8) sc__law_right.nd rfl (Or.inl rfl)) (pgs_cons (pg_name (i := 9) sc__law_right.nd rfl (Or.inl rfl)) pgs_nil))))))
    (pss_cons (ps_if (pt_cmpR op_ne (pe_callB (call_repr rm gd) (by rfl) B.g_repr (by decide +kernel) (pa_cons (pe_tup (pa_cons (pe_fld (pv 0) rfl) (pa_cons (pe_fld (pv 0) rfl) (pa_cons (pe_fld (pv 0) rfl) (pa_cons (pe_fld (pv 0) rfl) pa_nil))))) pa_nil)) (pe_callB (call_repr rm gd) (by rfl) B.g_repr (by decide +kernel) (pa_cons (pe_tup (pa_cons (pv 1) (pa_cons (pv 6) (pa_cons (pv 7) (pa_cons (pv 8) pa_nil))))) pa_nil)) (nomark _))
      (pss_one (ps_ret pe_bl))
      pss_nil)
    (pss_mid (ps_if (PW.pt (pw_or (pt_cmpR op_ne (pe_callB (call_repr rm gd) (by rfl) B.g_repr (by decide +kernel) (pa_cons (pe_gprop (pv 0) cl PIC GIC rm2 gd bIC pass_no) pa_nil)) (pe_callB (call_repr rm gd) (by rfl) B.g_repr (by decide +kernel) (pa_cons (pe_cmpR op_eq (pv 7) pe_int (nomark _)) pa_nil)) (nomark _)) (pw_or1 (pt_cmpR op_ne (pe_callB (call_repr rm gd) (by rfl) B.g_repr (by decide +kernel) (pa_cons (pe_listG (pgen_meth0 (E := fun _ _ _ => False) (pv 0) cl mSrc GSrc (rm.mono (by decide)) bSrc .nil) pass_no (fun _ _ _ z => z.elim) rm rfl B.g_list (by decide +kernel)) pa_nil)) (pe_callB (call_repr rm gd) (by rfl) B.g_repr (by decide +kernel) (pa_cons (pv 9) pa_nil)) (nomark _)))))
      (pss_one (ps_ret pe_bl))
      pss_nil)
    (pss_one (ps_ret (pe_cmpR op_eq (pe_callB (call_reprO FRP rm2 gd rpI rpF bRP pass0) (by rfl) B.g_repr (by decide +kernel) (pa_cons (pv 0) pa_nil)) (pe_op op_add_str (pe_op op_add_str pe_str (pe_join pe_str (pe_lc (own := [("_law_one", 10)]) (g := (gName 10)) (by rfl) sc__law_right.nd (pi_tup (pe_tup (pa_cons (pv 1) (pa_cons (pv 6) (pa_cons (pv 7) (pa_cons (pv 8) pa_nil)))))) (blkOk_by (own := [("_law_one", 10)]) (N := ["_law_blend", "_law_width", "_law_steps", "_law_words", "_law_value", "_law_k", "_law_shift", "_law_keep", "_law_flip", "_law_sources", "_law_one"]) (sc := defScope s__law_right) (by decide +kernel)) (fun _ _ _ _ _ => (pg_name (i := 10) sc__law_right.nd rfl (Or.inl rfl))) (fun _ _ _ _ _ => pts_nil) (fun _ _ _ _ _ => (pe_callTy call_str_int (by rfl) B.g_str (by decide +kernel) (pa_cons (pv 10) pa_nil)))))) pe_str) (nomark _)))))))), ?_⟩
    walk_at "go"
    refine ⟨wi, rfl, hw, fun H1 z1 => ?_⟩
    rw [fw_nat hw]
    walk_at "go"
    refine new (show 2 ≤ sizeLine by decide) fun a2 H2 n2 h2 z2 => ?_
    walk_at "go"
    refine over_r (by show -(2 ^ 62) ≤ wi; omega) (by show wi < 2 ^ 62; omega) ?_
    intro D1 nD1
    have zD : Same H2 (upd H2 D1 (.lst [])) := fun b u e => by
      rw [upd_ne (ne_of_none e nD1)]
      exact e
    refine lc_range (lo := 0) (n := wi.toNat) (fun i H' => H' D1 = some (.lst ((List.range i).map fun t => V.int ((2 ^ t : Nat) : Int))) ∧ Same H2 H') ⟨upd_same, zD⟩ (fun i H3 hi ⟨hD, z3⟩ => ?_) (fun H3 ⟨hD, z3⟩ => ?_)
    · rw [Int.zero_add]
      walk_at "go"
      refine ⟨rfl, ?_⟩
      unfold tYes
      refine iteT ?_
      walk_at "go"
      refine w_shl ⟨by omega, by omega, by decide⟩ ?_
      refine ⟨_, hD, ?_, ?_, fun b o e => ?_⟩
      · rw [List.length_map, List.length_range]
        exact Nat.lt_of_lt_of_le (show i < 32 by omega) (by decide)
      · rw [upd_same, List.range_succ, List.map_append]
        simp
      · rw [upd_ne (ne_of_none e nD1)]
        exact z3 _ _ e
    refine w_cat (z3 _ _ h2) hD rfl ?_ fun l3 H4 n4 h4 z4 => ?_
    · rw [List.length_append, List.length_map, List.length_range]
      exact Nat.le_trans (show 2 + wi.toNat ≤ 34 by omega) (by decide)
    walk_at "go"
    have z14 := z1.trans (z2.trans (z3.trans z4))
    refine w_cat h4 (z14 _ _ hW) (ys := (valsN wi ws).map fun v => V.int ((v : Nat) : Int)) ?_ ?_ fun l4 H5 n5 h5 z5 => ?_
    · unfold valsN
      simp
    · unfold valsN
      rw [List.length_map, List.length_append, List.length_append, List.length_map, List.length_range]
      exact Nat.le_trans (show 2 + wi.toNat + ws.length ≤ 37 by omega) (by decide)
    have z15 := z14.trans z5
    have lt := vals_lt hwl
    refine over_l (SqL.of h5) (for_list (xs := (valsN wi ws).map fun v => V.int ((v : Nat) : Int)) (fun i σ H' => (∃ v4 v5, σ = [some (.ref x), some (.int wi), some (.ref L), some (.ref lw), v4, v5, none, none, none, none, none]) ∧ Same H5 H') ⟨⟨none, none, rfl⟩, Same.refl _⟩ (fun i σ H' _ ⟨_, z⟩ => SqL.of (z _ _ h5)) ?_ ?_)
    · rintro i e σ H6 he ⟨⟨v4, v5, rfl⟩, z6⟩
      rw [List.getElem?_map] at he
      obtain ⟨v, hv, rfl⟩ := Option.map_eq_some_iff.mp he
      have hlt := lt v (List.mem_of_getElem? hv)
      have zH := z15.trans z6
      obtain ⟨dx, hx⟩ := at_fld (hb.same zH)
      walk_at "go"
      refine ⟨x, rfl, ?_⟩
      walk_at "go"
      refine ⟨dx, _, hx, x, _, (v : Int), rfl, hb.same zH, okb, Int.natCast_nonneg _, (fw_pow hw).mpr hlt, ?_⟩
      rw [cal_nat hlt, hR v hlt]
      have r_lt : doneN wi l v < 2 ^ wi.toNat := done_lt hlt ho
      obtain ⟨w1, w2, w3, w4⟩ := nat_show hw r_lt
      walk_at "go"
      refine ⟨_, _, rfl, .int _, w1, w2, w3, w4, ?_⟩
      walk_at "go"
      refine ⟨wi, L, xs, l, v, rfl, hw, zH _ _ hL, hS.same zH, ho, hlt, fun H7 z7 => ?_⟩
      walk_at "go"
      refine ⟨_, _, rfl, .int _, w1, w2, w3, w4, ?_⟩
      walk_at "go"
      refine iteNS rfl ?_
      walk_at "go"
      exact ⟨⟨_, _, rfl⟩, z6.trans z7⟩
    · rintro σ H6 ⟨⟨v4, v5, rfl⟩, z6⟩
      have zH6 := z15.trans z6
      walk_at "go"
      refine ⟨wi, L, xs, l, sh, k, fl, rfl, hw, zH6 _ _ hL, hS.same zH6, ho, o, hR, fun t M ys H7 z7 ht hM pr => ?_⟩
      have zH7 := zH6.trans z7
      have hb7 := hb.same zH7
      obtain ⟨dx, hx⟩ := at_fld hb7
      refine ⟨t, _, rfl, SqT.of ht, rfl, _, _, rfl, _, _, rfl, _, _, rfl, _, _, rfl, rfl, ?_⟩
      obtain ⟨m1, m2, m3, m4⟩ := num_len okb
      obtain ⟨t1, t2, t3, t4⟩ := tup_show [(BN wi sh k fl).w, (BN wi sh k fl).s, (BN wi sh k fl).k, (BN wi sh k fl).f] (by
        intro i hi
        simp only [List.mem_cons, List.not_mem_nil, or_false] at hi
        rcases hi with rfl | rfl | rfl | rfl
        · exact m1
        · exact m2
        · exact m3
        · exact m4) (show 4 ≤ 10 by decide)
      walk_at "go"
      refine new (show 4 ≤ sizeLine by decide) fun t8 H8 n8 h8 z8 => ?_
      walk_at "go"
      refine ⟨.ref t8, _, rfl, .tup (SqT.of h8) (.cons (.int _) (.cons (.int _) (.cons (.int _) (.cons (.int _) .nil)))), t1, t2, t3, t4, ?_⟩
      walk_at "go"
      refine new (show 4 ≤ sizeLine by decide) fun t9 H9 n9 h9 z9 => ?_
      walk_at "go"
      refine ⟨.ref t9, _, rfl, .tup (SqT.of h9) (.cons (.int _) (.cons (.int _) (.cons (.int _) (.cons (.int _) .nil)))), t1, t2, t3, t4, ?_⟩
      walk_at "go"
      refine iteNS rfl ?_
      have z79 := z8.trans z9
      have hb9 := hb7.same z79
      have hM9 := z79 _ _ hM
      have pr9 := pr.same z79
      have zH9 := zH7.trans z79
      obtain ⟨dx, hx⟩ := at_fld hb9
      walk_at "go"
      refine w_mid (fun σ' H' => (∃ v4 v5, σ' = [some (.ref x), some (.int wi), some (.ref L), some (.ref lw), v4, v5, some (.int (sN wi.toNat sh k)), some (.int (kN wi.toNat sh k : Nat)), some (.int (fl : Nat)), some (.ref M), none]) ∧ Same H9 H') ?_ fun σ' H12 ⟨⟨v4, v5, es⟩, z12⟩ => ?_
      · obtain ⟨c1, c2, c3, c4⟩ := bool_show (decide ((BN wi sh k fl).k = 0))
        obtain ⟨p1, p2, p3, p4⟩ := prD_show (prs wi.toNat sh (kN wi.toNat sh k) wi.toNat) (fun p hp => by
          obtain ⟨a, b, c⟩ := prs_mem hp
          have l1 := o.lo
          have l2 := o.hi
          unfold small
          omega) (Nat.le_trans prs_len (by omega))
        walk_at "go"
        refine ⟨_, rfl, x, dx, _, rfl, hx, x, _, rfl, hb9, ?_⟩
        walk_at "go"
        refine ⟨_, _, rfl, .bl _, c1, c2, c3, c4, ?_⟩
        walk_at "go"
        rw [dI']
        refine ⟨_, _, rfl, .bl _, c1, c2, c3, c4, ?_⟩
        walk_at "go"
        refine iteNS rfl ?_
        walk_at "go"
        refine ⟨_, rfl, x, dx, _, rfl, hx, rfl, ?_⟩
        walk_at "go"
        refine ⟨x, _, rfl, hb9, okb, fun outs H10 po z10 p np => ?_⟩
        have zp : Same H10 (upd H10 p (.lst outs)) := fun b u e => by
          rw [upd_ne (ne_of_none e np)]
          exact e
        have hp10 : upd H10 p (.lst outs) p = some (.lst outs) := upd_same
        generalize upd H10 p (.lst outs) = H11 at zp hp10
        rw [srcs_eq] at po
        refine ⟨.ref p, prD _, rfl, .lst (SqL.of hp10) (po.same zp).dp, p1, p2, p3, p4, ?_⟩
        walk_at "go"
        have z11 := z10.trans zp
        refine ⟨.ref M, prD _, rfl, .lst (SqL.of (z11 _ _ hM9)) (pr9.same z11).dp, p1, p2, p3, p4, ?_⟩
        walk_at "go"
        refine iteNS rfl ?_
        walk_at "go"
        exact ⟨⟨_, _, rfl⟩, z11⟩
      subst es
      have hb12 := hb9.same z12
      obtain ⟨dx, hx⟩ := at_fld hb12
      walk_at "go"
      refine ⟨x, dx, _, rfl, hx, x, _, rfl, hb12, okb, ?_⟩
      walk_at "go"
      refine ⟨_, rfl, ⟨_, rfl⟩, ?_⟩
      walk_at "go"
      refine new (show 4 ≤ sizeLine by decide) fun t13 H13 n13 h13 z13 => ?_
      walk_at "go"
      refine over_t (SqT.of h13) ?_
      intro D2 nD2
      have zD2 : Same H13 (upd H13 D2 (.lst [])) := fun b u e => by
        rw [upd_ne (ne_of_none e nD2)]
        exact e
      refine lc_tup (K := K) (a := t13) (xs := [V.int wi, .int (sN wi.toNat sh k), .int (kN wi.toNat sh k : Nat), .int (fl : Nat)]) (fun i H' => H' D2 = some (.lst (([(BN wi sh k fl).w, (BN wi sh k fl).s, (BN wi sh k fl).k, (BN wi sh k fl).f].take i).map fun n : Int => V.str ((toString n : String) : Str))) ∧ Same H13 H') ⟨upd_same, zD2⟩ (fun i H' _ ⟨_, z⟩ => SqT.of (z _ _ h13)) (fun i e H14 he ⟨hD, z14⟩ => ?_) (fun H14 ⟨hD, z14⟩ => ?_)
      · have one : ∃ n : Int, e = .int n ∧ [(BN wi sh k fl).w, (BN wi sh k fl).s, (BN wi sh k fl).k, (BN wi sh k fl).f][i]? = some n ∧ small n := by
          match i, he with
          | 0, he => cases he; exact ⟨_, rfl, rfl, m1⟩
          | 1, he => cases he; exact ⟨_, rfl, rfl, m2⟩
          | 2, he => cases he; exact ⟨_, rfl, rfl, m3⟩
          | 3, he => cases he; exact ⟨_, rfl, rfl, m4⟩
        obtain ⟨n, rfl, hn, sn⟩ := one
        walk_at "go"
        refine ⟨rfl, ?_⟩
        unfold tYes
        refine iteT ?_
        walk_at "go"
        refine ⟨n, rfl, log_small sn, _, hD, ?_, ?_, fun b u e => ?_⟩
        · rw [List.length_map]
          exact Nat.lt_of_le_of_lt (List.length_take_le _ _) (Nat.lt_of_le_of_lt (show i ≤ 4 by
            have := (List.getElem?_eq_some_iff.mp hn).1
            simp only [List.length_cons, List.length_nil] at this
            omega) (by decide))
        · rw [upd_same, List.take_succ, hn, List.map_append]
          rfl
        · rw [upd_ne (ne_of_none e nD2)]
          exact z14 _ _ e
      · have i1 := int_lenP m1
        have i2 := int_lenP m2
        have i3 := int_lenP m3
        have i4 := int_lenP m4
        have ej := rp_join (b := BN wi sh k fl)
        have ln := rp_len (b := BN wi sh k fl) m1 m2 m3 m4
        walk_at "go"
        refine ⟨(", " : Str), D2, [((toString (BN wi sh k fl).w : String) : Str), ((toString (BN wi sh k fl).s : String) : Str), ((toString (BN wi sh k fl).k : String) : Str), ((toString (BN wi sh k fl).f : String) : Str)], rfl, rfl, .inl (SqL.of hD), ?_, ?_⟩
        · simp only [List.map_cons, List.map_nil, List.sum_cons, List.sum_nil, List.length_cons, List.length_nil]
          rw [show ((", " : Str)).length = 2 by decide +kernel]
          omega
        generalize Txt.join (", " : Str) [((toString (BN wi sh k fl).w : String) : Str), ((toString (BN wi sh k fl).s : String) : Str), ((toString (BN wi sh k fl).k : String) : Str), ((toString (BN wi sh k fl).f : String) : Str)] = jj at ej
        have lj := congrArg Str.length ej
        rw [strLen_append, strLen_append] at lj
        refine ⟨_, _, rfl, rfl, ?_, ?_⟩
        · have : (9000 : Nat) ≤ sizeLine := by decide
          omega
        walk_at "go"
        refine ⟨_, _, rfl, rfl, ?_, ?_⟩
        · rw [strLen_append]
          have : (9000 : Nat) ≤ sizeLine := by decide
          omega
        rw [ej]
        walk_at "go"
        rw [decide_eq_true rfl]
        exact q _ (zH9.trans (z12.trans (z13.trans z14)))
end
end Law

set_option Elab.async false
set_option linter.all false
set_option maxRecDepth 100000
set_option maxHeartbeats 4000000
namespace Law
open PySem PySem.Spec PySem.Calls PyProof.Rows L2 KG LamX
local macro_rules | `(tactic| walk_at "1") => `(tactic| first
  | (with_reducible refine w_var rfl ?_) | (with_reducible refine w_c ?_) | (with_reducible refine w_seq ?_) | (with_reducible refine w_asg ?_) | (with_reducible refine w_gname ?_) | (with_reducible refine w_op ?_) | (with_reducible refine w_un ?_)
  | (with_reducible refine w_add ?_) | (with_reducible refine w_sub ?_) | ((with_reducible refine' w_mod ?mo ?_); (case mo => first | assumption | decide | omega)) | (with_reducible refine w_and ?_) | (with_reducible refine w_or ?_) | (with_reducible refine w_xor ?_)
  | (with_reducible refine w_gt ?_) | (with_reducible refine w_lt ?_) | (with_reducible refine w_ge ?_) | (with_reducible refine w_le ?_) | ((with_reducible refine' w_eq ?sc ?_); (case sc => rfl)) | ((with_reducible refine' w_ne ?sc ?_); (case sc => rfl))
  | (with_reducible refine w_ret ?_) | (with_reducible refine w_next ?_) | (with_reducible refine w_ifs ?_) | (with_reducible refine w_ifx ?_) | (with_reducible refine w_test ?_) | (with_reducible refine w_tB ?_) | (with_reducible refine w_bl ?_)
  | ((with_reducible refine' w_ixL ?ixh ?ixa ?_); (case ixh => first | exact SqL.of (by assumption)); (case ixa => first | rfl | skip)) | ((with_reducible refine' w_ixT ?ixh ?ixa ?_); (case ixh => first | exact SqT.of (by assumption)); (case ixa => first | rfl | skip))
  | ((with_reducible refine' w_fld ?_)) | ((with_reducible refine' fld ?fh ?fc ?fn ?fl ?_); (case fh => assumption); (case fc => assumption); (case fn => assumption); (case fl => rfl)) | (with_reducible refine w_sfld ?_)
  | (with_reducible refine Or.inl ⟨_, rfl, ?_⟩) | (with_reducible refine w_gsub ?_) | (with_reducible refine w_andV ?_) | (with_reducible refine w_orV ?_)
  | (with_reducible refine w_nil ?_) | (with_reducible refine w_cons ?_) | (with_reducible refine w_tup ?_) | (with_reducible refine w_lst ?_) | (with_reducible refine w_and2 ?_) | (with_reducible refine w_or2 ?_) | (with_reducible refine w_not ?_) | (with_reducible refine w_cb ?_) | (with_reducible refine w_call ?_) | (with_reducible refine w_par ?_) | (with_reducible refine w_pnil ?_) | (with_reducible refine w_pcons ?_) | (with_reducible refine w_dput ?_) | (with_reducible refine w_dget ?_) | (with_reducible refine w_for ?_) | (with_reducible refine w_itup ?_) | (with_reducible refine w_ilist ?_) | (with_reducible refine w_irng ?_) | (with_reducible refine w_meth ?_) | (with_reducible refine w_make ?_) | (with_reducible refine w_makeK ?_) | (with_reducible refine w_methK ?_) | ((with_reducible refine' mth ?mh ?ml ?_); (case mh => assumption); (case ml => rfl)) | (with_reducible refine w_drop ?_))
local macro_rules | `(tactic| walk_at "go") => `(tactic| ((repeat (walk_at "1")); try dsimp only))
local macro_rules | `(tactic| walk_at "1") => `(tactic| first
  | (with_reducible refine w_notV ?_) | (with_reducible refine w_callK ?_) | (with_reducible refine w_lc ?_) | (with_reducible refine w_chain ?_) | (with_reducible refine w_neg ?_) | ((with_reducible refine' w_shr ?mo ?_); (case mo => first | assumption | omega)))
def spLaw (K : PySem.W.Frag) : Sp := fun vs H Q _ => ∃ (a : Addr) (ns : List Int), vs = [.ref a] ∧ SqL K H a (ns.map V.int) ∧ ns.length ≤ 63 ∧ ∀ H', Q (.bl true) H'
theorem four_at {i : Int} (h0 : 0 ≤ i) (h1 : i < 4) : ∃ w, atI [V.int 8, .int 16, .int 32, .int 8] i = some (.int w) ∧ wd w = true := by
  have h : i = 0 ∨ i = 1 ∨ i = 2 ∨ i = 3 := by omega
  rcases h with rfl | rfl | rfl | rfl
  · exact ⟨8, rfl, rfl⟩
  · exact ⟨16, rfl, rfl⟩
  · exact ⟨32, rfl, rfl⟩
  · exact ⟨8, rfl, rfl⟩
/-- what changes but at a list -/
def But (q : Addr) (H H' : Hp) : Prop := ∀ b o, H b = some o → b ≠ q → H' b = some o
theorem StA.but {H H' : Hp} {q : Addr} {zs : List V} (hq : H q = some (.lst zs)) (k : But q H H') {v : V} : ∀ {x : Stp}, StA H v x → StA H' v x := by
  have nt : ∀ {t : Addr} {xs : List V}, H t = some (.tup xs) → H' t = some (.tup xs) := fun {t xs} e => k _ _ e fun z => by
    rw [z, hq] at e
    cases e
  intro x h
  cases x with
  | beg s kk f => obtain ⟨t, t3, e, h1, h2⟩ := h; exact ⟨t, t3, e, nt h1, nt h2⟩
  | and n => obtain ⟨t, e, h1⟩ := h; exact ⟨t, e, nt h1⟩
  | or n => obtain ⟨t, e, h1⟩ := h; exact ⟨t, e, nt h1⟩
  | xor n => obtain ⟨t, e, h1⟩ := h; exact ⟨t, e, nt h1⟩
  | inv => obtain ⟨t, e, h1⟩ := h; exact ⟨t, e, nt h1⟩
  | mv s => obtain ⟨t, e, h1⟩ := h; exact ⟨t, e, nt h1⟩
theorem StL.but {H H' : Hp} {q : Addr} {zs xs : List V} {l : List Stp} (hq : H q = some (.lst zs)) (k : But q H H') (h : StL H xs l) : StL H' xs l := ⟨h.1, fun i y e => let ⟨x, e1, e2⟩ := h.2 i y e; ⟨x, e1, e2.but hq k⟩⟩
theorem StL.snoc {H : Hp} {xs : List V} {l : List Stp} {u : V} {x : Stp} (h : StL H xs l) (hu : StA H u x) : StL H (xs ++ [u]) (l ++ [x]) := by
  refine ⟨by rw [List.length_append, List.length_append, h.1]; rfl, fun i y e => ?_⟩
  by_cases hi : i < xs.length
  · rw [List.getElem?_append_left hi] at e
    obtain ⟨x', e1, e2⟩ := h.2 i y e
    exact ⟨x', by rw [List.getElem?_append_left (by rw [← h.1]; exact hi)]; exact e1, e2⟩
  · have il := (List.getElem?_eq_some_iff.mp e).1
    rw [List.length_append] at il
    have e0 : i = xs.length := by
      have : ([u] : List V).length = 1 := rfl
      omega
    subst e0
    rw [List.getElem?_append_right (Nat.le_refl _), Nat.sub_self] at e
    cases e
    refine ⟨x, ?_, hu⟩
    rw [h.1, List.getElem?_append_right (Nat.le_refl _), Nat.sub_self]
    rfl
/-- what the walk knows -/
structure LS (C p l : Addr) (cells : List Int) (n : Nat) (Ls : Addr) (w : Int) (r : Addr) (b : Bq) (xs : List V) (st : List Stp) (H : Hp) : Prop where
  pen : PenC n p l cells H
  hb : BlAt C H r b
  rep : Rep w b (doneN w st)
  hL : H Ls = some (.lst xs)
  hS : StL H xs st
  ok : ∀ x ∈ st, x.ok w
  nep : Ls ≠ p
  nel : Ls ≠ l
section
variable {C p l : Addr} {cells : List Int} {n m : Nat} {Ls : Addr} {w : Int} {r : Addr} {b : Bq} {xs : List V} {st : List Stp} {H H' : Hp}
theorem LS.same (h : LS C p l cells n Ls w r b xs st H) (z : Same H H') : LS C p l cells n Ls w r b xs st H' := ⟨h.pen.same z, h.hb.same z, h.rep, z _ _ h.hL, h.hS.same z, h.ok, h.nep, h.nel⟩
theorem LS.mono (h : LS C p l cells n Ls w r b xs st H) (k : n ≤ m) : LS C p l cells m Ls w r b xs st H := ⟨h.pen.mono k, h.hb, h.rep, h.hL, h.hS, h.ok, h.nep, h.nel⟩
theorem LS.kp (h : LS C p l cells n Ls w r b xs st H) (pen : PenC m p l cells H') (k : Kp p H H') : LS C p l cells m Ls w r b xs st H' := by
  obtain ⟨ys, hp, _⟩ := h.pen.at_p
  exact ⟨pen, h.hb.kp k hp, h.rep, k _ _ h.hL h.nep, h.hS.but hp k, h.ok, h.nep, h.nel⟩
/-- another list changed -/
theorem LS.but {q : Addr} {zs : List V} (h : LS C p l cells n Ls w r b xs st H) (hq : H q = some (.lst zs)) (np : q ≠ p) (nl : q ≠ l) (nL : q ≠ Ls) (k : But q H H') : LS C p l cells n Ls w r b xs st H' := by
  obtain ⟨c1, c2, a, rr, c3, c4⟩ := h.pen
  exact ⟨⟨c1, k _ _ c2 nl.symm, a, rr, c3, k _ _ c4 np.symm⟩, h.hb.kp (p := q) k hq, h.rep, k _ _ h.hL nL.symm, h.hS.but hq k, h.ok, h.nep, h.nel⟩
/-- one step more -/
theorem LS.snoc {r' : Addr} {b' : Bq} {u : V} {x : Stp} (h : LS C p l cells n Ls w r b xs st H) (hb : BlAt C H r' b') (hu : StA H u x) (okx : x.ok w) (rep : Rep w b' (fun v => x.go w (doneN w st v))) (hL : H' Ls = some (.lst (xs ++ [u]))) (e : ∀ a, a ≠ Ls → H' a = H a) :
    LS C p l cells n Ls w r' b' (xs ++ [u]) (st ++ [x]) H' := by
  obtain ⟨c1, c2, a, rr, c3, c4⟩ := h.pen
  have k : But Ls H H' := fun a o z ne => (e a ne).trans z
  refine ⟨⟨c1, k _ _ c2 h.nel.symm, a, rr, c3, k _ _ c4 h.nep.symm⟩, hb.kp (p := Ls) k h.hL, ?_, hL, (h.hS.snoc hu).but h.hL k, fun y hy => ?_, h.nep, h.nel⟩
  · obtain ⟨s, kk, f, o, eb, hv⟩ := rep
    exact ⟨s, kk, f, o, eb, fun v q => by rw [done_snoc]; exact hv v q⟩
  · rcases List.mem_append.mp hy with hy | hy
    · exact h.ok y hy
    · rw [List.mem_singleton.mp hy]
      exact okx
end
section
variable {P : Program} {w : World} {K : PySem.W.Frag} {mg : Str → Option Value} {base : Heap} {C : Addr}
theorem ok_law {fl : Addr} {fd : FuncData} (F : Fun K "law" "law" s_law fl fd) (B : B1 mg) (c_law_pen : Cal P w K mg base 1 "_law_pen" (spPen K)) (c_law_draw : Cal P w K mg base 1 "_law_draw" spDraw) (c_law_word : Cal P w K mg base 2 "_law_word" spWord)
    (c_law_begun : Cal P w K mg base 7 "_law_begun" (spBegun C)) (c_law_step : Cal P w K mg base 8 "_law_step" (spStep C)) (c_law_right : Cal P w K mg base 7 "_law_right" (spRight C)) :
    Gd P w K mg base CX0 9 fl fd ["_law_script"] (spLaw K) := by
  refine gd0 (k := 8) F sc_law (fun vs H Q E h => ?_) (fun cdv A outer s H vs Q E rm gd h => ?_)
  · obtain ⟨a, ns, rfl, _⟩ := h
    rfl
  · obtain ⟨a, ns, rfl, hS, hlen, q⟩ := h
    refine ⟨_, (pss_cons (ps_set (i := 1) sc_law.nd rfl (Or.inr rfl) (pc c_law_pen rm (by decide) gd rfl (pa_cons (pv 0) pa_nil)))
    (pss_cons (ps_for PassesOwn.never rfl (pi_range1 rfl B.g_range (pa_cons pe_int pa_nil)) (pg_name (i := 2) sc_law.nd rfl (Or.inl rfl))
      (pss_cons (ps_set (i := 3) sc_law.nd rfl (Or.inr rfl) (pe_ix ix_list (pe_lst (pa_cons pe_int (pa_cons pe_int (pa_cons pe_int (pa_cons pe_int pa_nil))))) (pc c_law_draw rm (by decide) gd rfl (pa_cons (pv 1) (pa_cons pe_int pa_nil))) (fun _ _ => rfl)))
      (pss_cons (ps_asg (pc c_law_begun rm (by decide) gd rfl (pa_cons (pv 1) (pa_cons (pv 3) pa_nil))) (pg_tup rfl (pgs_cons (pg_name (i := 4) sc_law.nd rfl (Or.inl rfl)) (pgs_cons (pg_name (i := 5) sc_law.nd rfl (Or.inl rfl)) pgs_nil))))
      (pss_cons (ps_set (i := 6) sc_law.nd rfl (Or.inl rfl) (pe_lst (pa_cons (pv 5) pa_nil)))
      (pss_cons (ps_for PassesOwn.never rfl (pi_range1 rfl B.g_range (pa_cons (pc c_law_draw rm (by decide) gd rfl (pa_cons (pv 1) (pa_cons pe_int pa_nil))) pa_nil)) (pg_name (i := 7) sc_law.nd rfl (Or.inl rfl))
        (pss_cons (ps_asg (pc c_law_step rm (by decide) gd rfl (pa_cons (pv 1) (pa_cons (pv 4) pa_nil))) (pg_tup rfl (pgs_cons (pg_name (i := 4) sc_law.nd rfl (Or.inl rfl)) (pgs_cons (pg_name (i := 8) sc_law.nd rfl (Or.inl rfl)) pgs_nil))))
        (pss_one (ps_expr (pe_bm PySem.F.plainAttrs_list PySem.F.slot_list_append PySem.F.type_list_append mt_append (pv 6) (pa_cons (pv 8) pa_nil))))))
      (pss_cons (ps_setLc (i := 9) (own := [("_law_again", 7)]) (g := (gName 7)) (by rfl) sc_law.nd rfl rfl (sw_true rfl rfl rfl (by decide +kernel)) (pi_range1 rfl B.g_range (pa_cons pe_int pa_nil)) (blkOk_by (own := [("_law_again", 7)]) (N := ["_law_script", "_law_pen_here", "_law_turn", "_law_width", "_law_blend", "_law_first", "_law_steps", "_law_again", "_law_step_here", "_law_words"]) (sc := defScope s_law) (by decide +kernel)) (fun _ _ _ _ _ => (pg_name (i := 7) sc_law.nd rfl (Or.inl rfl))) (fun _ _ _ _ _ => pts_nil) (fun _ _ _ _ _ => (pc c_law_word rm (by decide) gd rfl (pa_cons (pv 1) (pa_cons (pv 3) pa_nil)))))
      (pss_one (ps_if (pt_not (pt_val (pc c_law_right rm (by decide) gd rfl (pa_cons (pv 4) (pa_cons (pv 3) (pa_cons (pv 6) (pa_cons (pv 9) pa_nil)))))))
        (pss_one (ps_ret pe_bl))
        pss_nil))))))))
    (pss_one (ps_ret pe_bl)))), ?_⟩
    walk_at "go"
    refine ⟨a, ns, rfl, hS, hlen, fun p l cells H1 np pen1 s1 => ?_⟩
    walk_at "go"
    refine over_r (by decide) (by decide) (for_range (n := 2) (fun i σ H' => (∃ v2 v3 v4 v5 v6 v7 v8 v9, σ = [some (.ref a), some (.ref p), v2, v3, v4, v5, v6, v7, v8, v9]) ∧ PenC (200 * i) p l cells H') ⟨⟨none, none, none, none, none, none, none, none, rfl⟩, pen1⟩ ?_ ?_)
    · rintro i σ H2 hi ⟨⟨v2, v3, v4, v5, v6, v7, v8, v9, rfl⟩, pen2⟩
      walk_at "go"
      refine new (show 4 ≤ sizeLine by decide) fun t3 H3 n3 h3 s3 => ?_
      have pen3 := pen2.same s3
      walk_at "go"
      refine ⟨p, l, cells, 200 * i, 4, rfl, pen3, by omega, by decide, by decide, fun d H4 d0 d1 pen4 k4 => ?_⟩
      have tp : t3 ≠ p := fun z => by
        obtain ⟨ys2, hp2, _⟩ := pen2.at_p
        rw [z, hp2] at n3
        cases n3
      obtain ⟨wi, ew, hw⟩ := four_at d0 d1
      refine w_ixL (SqL.of (k4 _ _ h3 tp)) ew ?_
      walk_at "go"
      refine ⟨p, l, cells, 200 * i + 1, wi, rfl, pen4, by omega, hw, fun t5 r u b x H5 ht5 hb5 hu5 ok5 rep5 pen5 k5 => ?_⟩
      refine ⟨t5, _, rfl, SqT.of ht5, rfl, _, _, rfl, _, _, rfl, rfl, ?_⟩
      walk_at "go"
      refine new (show 1 ≤ sizeLine by decide) fun Ls H6 n6 h6 z6 => ?_
      have nep : Ls ≠ p := fun z => by
        obtain ⟨ys2, hp2, _⟩ := pen5.at_p
        rw [z, hp2] at n6
        cases n6
      have nel : Ls ≠ l := fun z => by
        have hl := pen5.2.1
        rw [z, hl] at n6
        cases n6
      have L6 : LS C p l cells (200 * i + 15) Ls wi r b [u] [x] H6 := ⟨(pen5.same z6).mono (by omega), hb5.same z6, rep5, h6, ⟨rfl, fun j y e => by
        match j, e with
        | 0, e => cases e; exact ⟨x, rfl, hu5.same z6⟩⟩, fun y hy => by rw [List.mem_singleton.mp hy]; exact ok5, nep, nel⟩
      walk_at "go"
      refine ⟨p, l, cells, 200 * i + 15, 15, rfl, L6.pen, by omega, by decide, by decide, fun m H7 m0 m1 pen7 k7 => ?_⟩
      have L7 := L6.kp pen7 k7
      walk_at "go"
      refine over_r (by show -(2 ^ 62) ≤ m; omega) (by show m < 2 ^ 62; omega) (for_range (n := m.toNat) (fun j σ H' => ∃ (r : Addr) (b : Bq) (xs : List V) (st : List Stp), LS C p l cells (200 * i + 16 + 10 * j) Ls wi r b xs st H' ∧ st.length = j + 1 ∧ ∃ v2 v5 v7 v8 v9, σ = [some (.ref a), some (.ref p), v2, some (.int wi), some (.ref r), v5, some (.ref Ls), v7, v8, v9]) ⟨r, b, [u], [x], L7, rfl, _, _, _, _, _, rfl⟩ ?_ ?_)
      · rintro j σ H8 hj ⟨r, b, xs, st, L8, ls, v2, v5, v7, v8, v9, rfl⟩
        walk_at "go"
        refine ⟨p, l, cells, 200 * i + 16 + 10 * j, wi, r, b, doneN wi st, rfl, L8.pen, by omega, hw, L8.hb, L8.rep, fun t9 r9 u9 b9 x9 H9 ht9 hb9 hu9 ok9 rep9 pen9 k9 => ?_⟩
        refine ⟨t9, _, rfl, SqT.of ht9, rfl, _, _, rfl, _, _, rfl, rfl, ?_⟩
        have L9 := L8.kp pen9 k9
        walk_at "go"
        refine w_bm ?_
        walk_at "go"
        refine ⟨ty_list L9.hL, ?_⟩
        walk_at "go"
        refine w_app L9.hL (by rw [L9.hS.1, ls]; exact Nat.lt_of_lt_of_le (show j + 1 < 20 by omega) (by decide)) rfl fun H10 h10 e10 => ?_
        exact ⟨r9, b9, _, _, (L9.snoc hb9 hu9 ok9 rep9 h10 e10).mono (by omega), by rw [List.length_append, ls]; rfl, _, _, _, _, _, rfl⟩
      · rintro σ H8 ⟨r, b, xs, st, L8, ls, v2, v5, v7, v8, v9, rfl⟩
        have L8 := L8.mono (show 200 * i + 16 + 10 * m.toNat ≤ 200 * i + 170 by omega)
        walk_at "go"
        refine over_r (by decide) (by decide) ?_
        intro D1 nD1
        have zD : Same H8 (upd H8 D1 (.lst [])) := fun b u e => by
          rw [upd_ne (ne_of_none e nD1)]
          exact e
        have ndp : D1 ≠ p := fun z => by
          obtain ⟨ys2, hp2, _⟩ := L8.pen.at_p
          rw [z, hp2] at nD1
          cases nD1
        have ndl : D1 ≠ l := fun z => by
          have hl := L8.pen.2.1
          rw [z, hl] at nD1
          cases nD1
        have ndL : D1 ≠ Ls := fun z => by
          rw [z, L8.hL] at nD1
          cases nD1
        refine lc_range (lo := 0) (n := 3) (fun j H' => ∃ ws : List Nat, H' D1 = some (.lst (ws.map fun v => V.int ((v : Nat) : Int))) ∧ ws.length = j ∧ (∀ v ∈ ws, v < 2 ^ wi.toNat) ∧ LS C p l cells (200 * i + 170 + 6 * j) Ls wi r b xs st H') ⟨[], upd_same, rfl, fun v hv => by simp at hv, L8.same zD⟩ (fun j H9 hj ⟨ws, hD, hl, hlt, L9⟩ => ?_) (fun H9 ⟨ws, hD, hl, hlt, L9⟩ => ?_)
        · walk_at "go"
          refine ⟨rfl, ?_⟩
          unfold tYes
          refine iteT ?_
          walk_at "go"
          refine ⟨p, l, cells, 200 * i + 170 + 6 * j, wi, rfl, L9.pen, by omega, hw, fun v H10 v0 v1 pen10 k10 => ?_⟩
          obtain ⟨vn, rfl, hv⟩ := fl_nat hw v0 v1
          have hD10 := k10 _ _ hD ndp
          refine ⟨_, hD10, ?_, ws ++ [vn], ?_, by rw [List.length_append, hl]; rfl, fun y hy => ?_, ?_⟩
          · rw [List.length_map, hl]
            exact Nat.lt_of_lt_of_le hj (by decide)
          · rw [upd_same, List.map_append]
            rfl
          · rcases List.mem_append.mp hy with hy | hy
            · exact hlt y hy
            · rw [List.mem_singleton.mp hy]
              exact hv
          · exact ((L9.kp pen10 k10).but hD10 ndp ndl ndL fun b o e ne => by rw [upd_ne ne]; exact e).mono (by omega)
        · walk_at "go"
          refine ⟨r, b, wi, Ls, xs, st, D1, ws, rfl, hw, L9.hb, L9.rep, L9.hL, L9.hS, L9.ok, hD, hlt, by omega, fun H10 z10 => ?_⟩
          refine ⟨true, rfl, ?_⟩
          refine iteF ?_
          walk_at "go"
          exact ⟨⟨_, _, _, _, _, _, _, _, rfl⟩, (L9.pen.same z10).mono (by omega)⟩
    · rintro σ H2 ⟨⟨v2, v3, v4, v5, v6, v7, v8, v9, rfl⟩, pen2⟩
      walk_at "go"
      exact q H2
end
end Law

set_option Elab.async false
set_option linter.all false
set_option maxRecDepth 100000
set_option maxHeartbeats 4000000
namespace Law
open PySem PySem.Spec PySem.Calls PyProof.Rows L2 KG
local macro_rules | `(tactic| walk_at "1") => `(tactic| first
  | (with_reducible refine w_var rfl ?_) | (with_reducible refine w_c ?_) | (with_reducible refine w_seq ?_) | (with_reducible refine w_asg ?_) | (with_reducible refine w_gname ?_) | (with_reducible refine w_op ?_) | (with_reducible refine w_un ?_)
  | (with_reducible refine w_add ?_) | (with_reducible refine w_sub ?_) | ((with_reducible refine' w_mod ?mo ?_); (case mo => first | assumption | decide | omega)) | (with_reducible refine w_and ?_) | (with_reducible refine w_or ?_) | (with_reducible refine w_xor ?_)
  | (with_reducible refine w_gt ?_) | (with_reducible refine w_lt ?_) | (with_reducible refine w_ge ?_) | (with_reducible refine w_le ?_) | ((with_reducible refine' w_eq ?sc ?_); (case sc => rfl)) | ((with_reducible refine' w_ne ?sc ?_); (case sc => rfl))
  | (with_reducible refine w_ret ?_) | (with_reducible refine w_next ?_) | (with_reducible refine w_ifs ?_) | (with_reducible refine w_ifx ?_) | (with_reducible refine w_test ?_) | (with_reducible refine w_tB ?_) | (with_reducible refine w_bl ?_)
  | ((with_reducible refine' w_ixL ?ixh ?ixa ?_); (case ixh => first | exact SqL.of (by assumption)); (case ixa => first | rfl | skip)) | ((with_reducible refine' w_ixT ?ixh ?ixa ?_); (case ixh => first | exact SqT.of (by assumption)); (case ixa => first | rfl | skip))
  | ((with_reducible refine' w_fld ?_)) | ((with_reducible refine' fld ?fh ?fc ?fn ?fl ?_); (case fh => assumption); (case fc => assumption); (case fn => assumption); (case fl => rfl)) | (with_reducible refine w_sfld ?_)
  | (with_reducible refine Or.inl ⟨_, rfl, ?_⟩) | (with_reducible refine w_gsub ?_) | (with_reducible refine w_andV ?_) | (with_reducible refine w_orV ?_)
  | (with_reducible refine w_nil ?_) | (with_reducible refine w_cons ?_) | (with_reducible refine w_tup ?_) | (with_reducible refine w_lst ?_) | (with_reducible refine w_and2 ?_) | (with_reducible refine w_or2 ?_) | (with_reducible refine w_not ?_) | (with_reducible refine w_cb ?_) | (with_reducible refine w_call ?_) | (with_reducible refine w_par ?_) | (with_reducible refine w_pnil ?_) | (with_reducible refine w_pcons ?_) | (with_reducible refine w_dput ?_) | (with_reducible refine w_dget ?_) | (with_reducible refine w_for ?_) | (with_reducible refine w_itup ?_) | (with_reducible refine w_ilist ?_) | (with_reducible refine w_irng ?_) | (with_reducible refine w_meth ?_) | (with_reducible refine w_make ?_) | (with_reducible refine w_makeK ?_) | (with_reducible refine w_methK ?_) | ((with_reducible refine' mth ?mh ?ml ?_); (case mh => assumption); (case ml => rfl)) | (with_reducible refine w_drop ?_))
local macro_rules | `(tactic| walk_at "go") => `(tactic| ((repeat (walk_at "1")); try dsimp only))
local macro_rules | `(tactic| walk_at "1") => `(tactic| first
  | (with_reducible refine w_notV ?_) | (with_reducible refine w_callK ?_) | (with_reducible refine w_lc ?_) | (with_reducible refine w_chain ?_) | (with_reducible refine w_neg ?_) | ((with_reducible refine' w_shr ?mo ?_); (case mo => first | assumption | omega)))
theorem ktup {K : PySem.W.Frag} {a : Addr} {dd : Option Addr} {its : Array Value} {n : Nat} {sl : Array (Option Value)} {xs : List V} (h : K.lookup a = some ⟨.type "tuple", dd, .seq its n, sl⟩) (z : Nat.ble its.size 100 = true) (r : Vals xs its.toList) : KTup K a xs :=
  ⟨_, its, n, h, rfl, rfl, Nat.le_trans (Nat.le_of_ble_eq_true z) (by decide), r⟩
theorem kit_own {K : PySem.W.Frag} {t : Value} {C : Addr} {b : Bool} (hd : PySem.W.hasDictIn K C = true) (ty : PySem.W.typeIn K (.ref C) = some (.type "type")) (ne : (t == Value.ref C) = false) (s : PySem.W.subIn K t (.ref C) = some b) : PySem.W.kitOne K t (.ref C) = some b := by
  obtain ⟨cd, hc, _⟩ := PySem.W.any_some hd
  have e2 : ((PySem.W.clsIn K C).isSome && PySem.W.typeIn K (.ref C) == some (.type "type")) = true := by rw [hc, ty] <;> rfl
  unfold PySem.W.kitOne
  rw [ne, if_neg Bool.false_ne_true]
  show (if ((PySem.W.clsIn K C).isSome && PySem.W.typeIn K (.ref C) == some (.type "type")) = true then PySem.W.subIn K t (.ref C) else none) = some b
  rw [if_pos e2]
  exact s
theorem kit_same {K : PySem.W.Frag} {t : Value} : PySem.W.kitOne K t t = some true := if_pos (beq_self_eq_true t)
theorem kit_ve {K : PySem.W.Frag} {a : Addr} (s : PySem.W.subIn K (.ref a) (.type "ValueError") = some true) : PySem.W.kitOne K (.ref a) (.type "ValueError") = some true := by
  unfold PySem.W.kitOne
  rw [if_neg (by simp)]
  show (if PySem.W.kitMeta "ValueError" = true then PySem.W.subIn K (.ref a) (.type "ValueError") else none) = some true
  rw [if_pos (by decide +kernel)]
  exact s
theorem sup_up {K : PySem.W.Frag} {E BE N : Addr} {nm q : Str} {bs bm : List Value} {hdct : Bool} {sn : List Str} {sub : List Value} {ab : Bool} {col : Option Bool} {dd : Option Addr} {k0 k1 k2 k3 k5 : Option Value} {newId : String} {cdB : ClassData}
    (cl : K.lookup E = some (excClassObj nm q E N bs bm hdct sn sub ab col dd k0 k1 k2 k3 k5 newId)) (cB : PySem.W.clsIn K BE = some cdB) (mB : bm = cdB.mro) (f : PySem.W.findIn K (.ref BE) "__init__" = some (some (.builtin "ValueError.__init__"))) : PySem.W.ks_superIn K E E "__init__" = some (some (.builtin "ValueError.__init__")) := by
  have hcl : PySem.W.clsIn K E = some { name := nm, bases := bs, mro := .ref E :: bm, ns := N, qualname := q, hasDict := hdct, slotNames := sn, subclasses := sub, abstract := ab, collection := col, hasDel := false } := by
    unfold PySem.W.clsIn
    rw [cl] <;> rfl
  unfold PySem.W.ks_superIn
  rw [hcl, Option.bind_some]
  show PySem.W.alongIn K "__init__" (((Value.ref E :: bm).dropWhile (· != .ref E)).drop 1) = _
  have e : ((Value.ref E :: bm).dropWhile (· != .ref E)).drop 1 = bm := by simp [List.dropWhile_cons]
  rw [e, mB]
  unfold PySem.W.findIn at f
  dsimp only at f
  unfold PySem.W.clsIn at cB
  cases z : K.lookup BE with
  | none =>
    rw [z] at cB
    cases cB
  | some o =>
    rw [z] at cB f
    obtain ⟨oc, od, dt, osl⟩ := o
    cases dt with
    | cls cd =>
      cases cB
      exact f
    | _ => cases cB
theorem errX0 : ErrX s_InvalidWidth___init__ "InvalidWidth.__init__" "value" "value" :=
  ⟨_, _, _, _, _, _, _, _, _, _, _, _, rfl, { bind := fun _ _ _ _ _ _ _ _ _ => rfl, ev := ⟨_, fun _ => rfl⟩, par := rfl, k1 := by decide +kernel, k2 := by decide +kernel, k3 := by decide +kernel, k4 := by decide +kernel, npv := by decide, npd := by decide, cell := by decide +kernel, co := by decide +kernel, gen := by decide +kernel, kind := by decide +kernel }⟩
theorem bind_blend {K : PySem.W.Frag} {f : Addr} {fd : FuncData} (F : FunD K "__init__" "Blend.__init__" (defArgs s_Blend___init__) (defBody s_Blend___init__) (defScope s_Blend___init__) [.int 0, .non, .int 0] [] f fd) :
    (∃ d2, Vals [.int 0, .non, .int 0] d2 ∧ Binds K fd ["self", "width", "shift", "keep", "flip"] d2) ∧ (∃ d3, Vals [.non, .int 0] d3 ∧ Binds K fd ["self", "width", "shift", "keep", "flip"] d3) ∧ Binds K fd ["self", "width", "shift", "keep", "flip"] [] := by
  have hd : ([.int 0, .non, .int 0] : List V) ≠ [] := by simp
  refine ⟨F.binds1 2 0 hd rfl ?_, F.binds1 3 1 hd rfl ?_, ?_⟩
  · intro T kV doc pm an cdv ct us its h1 h2
    match us, its, h1, h2 with
    | [_, _], [_, _, _], _, _ => exact ⟨_, rfl, rfl⟩
  · intro T kV doc pm an cdv ct us its h1 h2
    match us, its, h1, h2 with
    | [_, _, _], [_, _, _], _, _ => exact ⟨_, rfl, rfl⟩
  · have z : ∃ ds, Vals (([.int 0, .non, .int 0] : List V).drop 3) ds ∧ Binds K fd ["self", "width", "shift", "keep", "flip"] ds := by
      refine F.binds1 5 3 hd rfl ?_
      intro T kV doc pm an cdv ct us its h1 h2
      match us, its, h1, h2 with
      | [_, _, _, _, _], [_, _, _], _, _ => exact ⟨_, rfl, rfl⟩
    obtain ⟨ds, v, b⟩ := z
    cases v
    exact b
theorem rec_at {K : PySem.W.Frag} {p g : Addr} {T : String} {d : Option Addr} {vs : Array Value} {ss : Array (Option Value)} {rs : List Value} (h : K.lookup p = some ⟨.type T, d, .fields vs, ss⟩) (v : vs.toList = .ref g :: rs) : PySem.W.recIn K p T = some (.ref g :: rs) := by
  unfold PySem.W.recIn
  rw [h]
  show (if (T == T) = true then some vs.toList else none) = _
  rw [beq_self_eq_true, if_pos rfl, v]
theorem all {l : PySem.W.OpenLaw} {w : World} {K : PySem.W.Frag} {h : Heap} {mg : Str → Option Value} {fa : Addr} (X : K.In h) (G : h.Ns mainGlobals mg) (hfa : mg "law" = some (.ref fa))
    {C aL BE : Addr} {t8 t16 t32 : Addr} {hs1 hs2 hs3 : Int} {ku1 ku2 ku3 : Tok} {nL : Nat} {E0 : Addr} {cdB : ClassData} {nmE0 qE0 : Str} {NE0 : Addr} {bsE0 bmE0 : List Value} {snE0 : List Str} {subE0 : List Value} {abE0 : Bool} {colE0 : Option Bool} {ddE0 : Option Addr} {j0_0 j1_0 j2_0 j3_0 j5_0 : Option Value} {fI0 cda0 cc0 : Addr} {ocE0 kVE0 dcE0 pmE0 ctE0 : Value} {anE0 odE0 : Option Addr} {slE0 : Array (Option Value)} {ccl0 ccv0 : Value} {cdd0 cld0 : Option Addr} {vsE0 : Array Value} {ccs0 csl0 : Array (Option Value)} {fileE0 : Str} {tfE0 : Tok} {fT TD : Addr} {odT anT dT : Option Addr} {slT sT : Array (Option Value)} {ocT kVT dcT pmT cdT ctT oT : Value} {nT : Nat} {tu1 tu2 : Tok} {m_Blend_call : Addr} {odv1 anv1 : Option Addr} {slv1 : Array (Option Value)} {ocv1 kVv1 dcv1 pmv1 cdv1 ctv1 : Value} {m_Blend_repr : Addr} {odv2 anv2 : Option Addr} {slv2 : Array (Option Value)} {ocv2 kVv2 dcv2 pmv2 cdv2 ctv2 : Value} {m_Blend_and : Addr} {odv3 anv3 : Option Addr} {slv3 : Array (Option Value)} {ocv3 kVv3 dcv3 pmv3 cdv3 ctv3 : Value} {m_Blend_or : Addr} {odv4 anv4 : Option Addr} {slv4 : Array (Option Value)} {ocv4 kVv4 dcv4 pmv4 cdv4 ctv4 : Value} {m_Blend_xor : Addr} {odv5 anv5 : Option Addr} {slv5 : Array (Option Value)} {ocv5 kVv5 dcv5 pmv5 cdv5 ctv5 : Value} {m_Blend_rand : Addr} {odv6 anv6 : Option Addr} {slv6 : Array (Option Value)} {ocv6 kVv6 dcv6 pmv6 cdv6 ctv6 : Value} {m_Blend_ror : Addr} {odv7 anv7 : Option Addr} {slv7 : Array (Option Value)} {ocv7 kVv7 dcv7 pmv7 cdv7 ctv7 : Value} {m_Blend_rxor : Addr} {odv8 anv8 : Option Addr} {slv8 : Array (Option Value)} {ocv8 kVv8 dcv8 pmv8 cdv8 ctv8 : Value} {m_Blend_invert : Addr} {odv9 anv9 : Option Addr} {slv9 : Array (Option Value)} {ocv9 kVv9 dcv9 pmv9 cdv9 ctv9 : Value} {m_Blend_lshift : Addr} {odv10 anv10 : Option Addr} {slv10 : Array (Option Value)} {ocv10 kVv10 dcv10 pmv10 cdv10 ctv10 : Value} {m_Blend_rshift : Addr} {odv11 anv11 : Option Addr} {slv11 : Array (Option Value)} {ocv11 kVv11 dcv11 pmv11 cdv11 ctv11 : Value} {m_Blend_then : Addr} {odv12 anv12 : Option Addr} {slv12 : Array (Option Value)} {ocv12 kVv12 dcv12 pmv12 cdv12 ctv12 : Value} {m_Blend_sources : Addr} {odv13 anv13 : Option Addr} {slv13 : Array (Option Value)} {ocv13 kVv13 dcv13 pmv13 cdv13 ctv13 : Value} {cdC : ClassData} {i1_and i2_and : Option Value} {i1_or i2_or : Option Value} {i1_xor i2_xor : Option Value} {i1_lshift i2_lshift : Option Value} {i1_rshift i2_rshift : Option Value} {pIC gIC : Addr} {ddIC : Option Addr} {vsIC : Array Value} {ssIC : Array (Option Value)} {rsIC : List Value} {odv14 anv14 : Option Addr} {slv14 : Array (Option Value)} {ocv14 kVv14 dcv14 pmv14 cdv14 ctv14 : Value} {pCM gCM : Addr} {ddCM : Option Addr} {vsCM : Array Value} {ssCM : Array (Option Value)} {rsCM : List Value} {odv15 anv15 : Option Addr} {slv15 : Array (Option Value)} {ocv15 kVv15 dcv15 pmv15 cdv15 ctv15 : Value} {f_is_int : Addr} {odv16 anv16 : Option Addr} {slv16 : Array (Option Value)} {ocv16 kVv16 dcv16 pmv16 cdv16 ctv16 : Value} {f_is_width : Addr} {odv17 anv17 : Option Addr} {slv17 : Array (Option Value)} {ocv17 kVv17 dcv17 pmv17 cdv17 ctv17 : Value} {f_full_word : Addr} {odv18 anv18 : Option Addr} {slv18 : Array (Option Value)} {ocv18 kVv18 dcv18 pmv18 cdv18 ctv18 : Value} {f_is_word : Addr} {odv19 anv19 : Option Addr} {slv19 : Array (Option Value)} {ocv19 kVv19 dcv19 pmv19 cdv19 ctv19 : Value} {f_shifted : Addr} {odv20 anv20 : Option Addr} {slv20 : Array (Option Value)} {ocv20 kVv20 dcv20 pmv20 cdv20 ctv20 : Value} {f_check_word : Addr} {odv21 anv21 : Option Addr} {slv21 : Array (Option Value)} {ocv21 kVv21 dcv21 pmv21 cdv21 ctv21 : Value} {f_check_shift : Addr} {odv22 anv22 : Option Addr} {slv22 : Array (Option Value)} {ocv22 kVv22 dcv22 pmv22 cdv22 ctv22 : Value} {f__law_pen : Addr} {odv23 anv23 : Option Addr} {slv23 : Array (Option Value)} {ocv23 kVv23 dcv23 pmv23 cdv23 ctv23 : Value} {f__law_draw : Addr} {odv24 anv24 : Option Addr} {slv24 : Array (Option Value)} {ocv24 kVv24 dcv24 pmv24 cdv24 ctv24 : Value} {f__law_word : Addr} {odv25 anv25 : Option Addr} {slv25 : Array (Option Value)} {ocv25 kVv25 dcv25 pmv25 cdv25 ctv25 : Value} {f__law_top : Addr} {odv26 anv26 : Option Addr} {slv26 : Array (Option Value)} {ocv26 kVv26 dcv26 pmv26 cdv26 ctv26 : Value} {f__law_moved : Addr} {odv27 anv27 : Option Addr} {slv27 : Array (Option Value)} {ocv27 kVv27 dcv27 pmv27 cdv27 ctv27 : Value} {f__law_done : Addr} {odv28 anv28 : Option Addr} {slv28 : Array (Option Value)} {ocv28 kVv28 dcv28 pmv28 cdv28 ctv28 : Value} {f__law_begun : Addr} {odv29 anv29 : Option Addr} {slv29 : Array (Option Value)} {ocv29 kVv29 dcv29 pmv29 cdv29 ctv29 : Value} {f__law_step : Addr} {odv30 anv30 : Option Addr} {slv30 : Array (Option Value)} {ocv30 kVv30 dcv30 pmv30 cdv30 ctv30 : Value} {f__law_normal : Addr} {odv31 anv31 : Option Addr} {slv31 : Array (Option Value)} {ocv31 kVv31 dcv31 pmv31 cdv31 ctv31 : Value} {f__law_right : Addr} {odv32 anv32 : Option Addr} {slv32 : Array (Option Value)} {ocv32 kVv32 dcv32 pmv32 cdv32 ctv32 : Value} {f_law : Addr} {odv33 anv33 : Option Addr} {slv33 : Array (Option Value)} {ocv33 kVv33 dcv33 pmv33 cdv33 ctv33 : Value}
    (n_Blend : PySem.W.nsIn K mainGlobals "Blend" = some (some (.ref C)))
    (n_BitError : PySem.W.nsIn K mainGlobals "BitError" = some (some (.ref BE)))
    (n_LANES : PySem.W.nsIn K mainGlobals "LANES" = some (some (.ref aL)))
    (no_sorted : PySem.W.nsIn K mainGlobals "sorted" = some none)
    (no_int : PySem.W.nsIn K mainGlobals "int" = some none)
    (no_len : PySem.W.nsIn K mainGlobals "len" = some none)
    (no_abs : PySem.W.nsIn K mainGlobals "abs" = some none)
    (no_list : PySem.W.nsIn K mainGlobals "list" = some none)
    (no_repr : PySem.W.nsIn K mainGlobals "repr" = some none)
    (no_range : PySem.W.nsIn K mainGlobals "range" = some none)
    (no_str : PySem.W.nsIn K mainGlobals "str" = some none)
    (no_isinstance : PySem.W.nsIn K mainGlobals "isinstance" = some none)
    (no_bool : PySem.W.nsIn K mainGlobals "bool" = some none)
    (no_tuple : PySem.W.nsIn K mainGlobals "tuple" = some none)
    (no_ValueError : PySem.W.nsIn K mainGlobals "ValueError" = some none)
    (no_super : PySem.W.nsIn K mainGlobals "super" = some none)
    (pg : PySem.W.plainGet K C Str.empty = true)
    (hd : PySem.W.hasDictIn K C = true)
    (po : PySem.W.plainOver K C = true)
    (fd_C_setattr : PySem.W.findIn K (.ref C) "__setattr__" = some (some (.builtin "object.__setattr__")))
    (fd_C_class : PySem.W.findIn K (.ref C) "__class__" = some (some (.builtin "object.__class__")))
    (isM : PySem.W.mroIn K C (.type "object") = some true)
    (tyC : PySem.W.typeIn K (.ref C) = some (.type "type"))
    (fd_C_width : PySem.W.findIn K (.ref C) "width" = some none)
    (fd_C_shift : PySem.W.findIn K (.ref C) "shift" = some none)
    (fd_C_keep : PySem.W.findIn K (.ref C) "keep" = some none)
    (fd_C_flip : PySem.W.findIn K (.ref C) "flip" = some none)
    (isG : PySem.W.specialIn K (.builtin "object.__class__") "__get__" = some (some (.builtin "getset_descriptor.__get__")))
    (isT : PySem.W.takesIn K (.builtin "object.__class__") = some true)
    (mk : PySem.W.makesIn K C = true)
    (kc : PySem.W.keepIn K (.ref C) = true)
    (sBB : PySem.W.subIn K (.ref BE) (.type "BaseException") = some true)
    (hBE : PySem.W.hasDictIn K BE = true)
    (tBE : PySem.W.typeIn K (.ref BE) = some (.type "type"))
    (lL : K.lookup aL = some ⟨.type "dict", none, .dict #[⟨hs1, .int 8 ku1, .ref t8⟩, ⟨hs2, .int 16 ku2, .ref t16⟩, ⟨hs3, .int 32 ku3, .ref t32⟩] nL, #[]⟩)
    (eh1 : hs1 = hashInt 8)
    (eh2 : hs2 = hashInt 16)
    (eh3 : hs3 = hashInt 32)
    (loL : (aL == sysModules) = false)
    (n_InvalidWidth : PySem.W.nsIn K mainGlobals "InvalidWidth" = some (some (.ref E0)))
    (hD0 : PySem.W.hasDictIn K E0 = true)
    (ty0 : PySem.W.typeIn K (.ref E0) = some (.type "type"))
    (sB0 : PySem.W.subIn K (.ref E0) (.type "BaseException") = some true)
    (fd_E0_value : PySem.W.findIn K (.ref E0) "value" = some none)
    (sV0 : PySem.W.subIn K (.ref E0) (.type "ValueError") = some true)
    (fBE : PySem.W.findIn K (.ref BE) "__init__" = some (some (.builtin "ValueError.__init__")))
    (cBE : PySem.W.clsIn K BE = some cdB)
    (opq : PySem.W.nsIn K cStatics "thirdparty.any" = some none)
    (topE : (l.prog.main.scope.names.lookup ("super" : Str)).isSome = false)
    (clE0 : K.lookup E0 = some (excClassObj nmE0 qE0 E0 NE0 bsE0 bmE0 true snE0 subE0 abE0 colE0 ddE0 j0_0 j1_0 j2_0 j3_0 j5_0 "ValueError.__new__"))
    (veE0 : PySem.HandSPX.refsVE bmE0 = true)
    (fd_E0_setattr : PySem.W.findIn K (.ref E0) "__setattr__" = some (some (.builtin "object.__setattr__")))
    (kE0 : PySem.W.keepIn K (.ref E0) = true)
    (iniE0 : PySem.W.findIn K (.ref E0) "__init__" = some (some (.ref fI0)))
    (fnE0 : PySem.W.typeIn K (.ref fI0) = some (.type "function"))
    (lE0 : K.lookup fI0 = some ⟨ocE0, odE0, .func (PySem.W.ksFn "__init__" "InvalidWidth.__init__" (defArgs s_InvalidWidth___init__) (defBody s_InvalidWidth___init__) (defScope s_InvalidWidth___init__) .none kVE0 dcE0 pmE0 anE0 (.ref cda0) ctE0 cc0), slE0⟩)
    (cE0 : PySem.W.codeIn K (.ref cda0) "InvalidWidth.__init__" = true)
    (lC0 : K.lookup cda0 = some ⟨ccl0, cdd0, .fields vsE0, ccs0⟩)
    (vE0 : vsE0[2]? = some (.str fileE0 tfE0))
    (fE0 : ((l.prog.main.file : Str) == fileE0) = true)
    (lcc0 : K.lookup cc0 = some ⟨ccv0, cld0, .cell (some (.ref E0)), csl0⟩)
    (mE0 : PySem.W.mroIn K E0 (.ref E0) = some true)
    (mBE0 : bmE0 = cdB.mro)
    (a_init : PySem.W.findIn K (.ref C) "__init__" = some (some (.ref fT)))
    (i_init : PySem.W.isFn K (.ref fT) = true)
    (l_init : K.lookup fT = some ⟨ocT, odT, .func (PySem.W.fnOf "__init__" "Blend.__init__" (defArgs s_Blend___init__) (defBody s_Blend___init__) (defScope s_Blend___init__) (.ref TD) kVT dcT pmT anT cdT ctT), slT⟩)
    (c_init : PySem.W.codeIn K cdT "Blend.__init__" = true)
    (k_init : PySem.W.keepIn K (.ref fT) = true)
    (lTD : K.lookup TD = some ⟨oT, dT, .seq #[.int 0 tu1, .none, .int 0 tu2] nT, sT⟩)
    (a_Blend___call__ : PySem.W.findIn K (.ref C) "__call__" = some (some (.ref m_Blend_call)))
    (i_Blend___call__ : PySem.W.isFn K (.ref m_Blend_call) = true)
    (l_Blend___call__ : K.lookup m_Blend_call = some ⟨ocv1, odv1, .func (PySem.W.fnOf "__call__" "Blend.__call__" (defArgs s_Blend___call__) (defBody s_Blend___call__) (defScope s_Blend___call__) .none kVv1 dcv1 pmv1 anv1 cdv1 ctv1), slv1⟩)
    (c_Blend___call__ : PySem.W.codeIn K cdv1 "Blend.__call__" = true)
    (k_Blend___call__ : PySem.W.keepIn K (.ref m_Blend_call) = true)
    (a_Blend___repr__ : PySem.W.findIn K (.ref C) "__repr__" = some (some (.ref m_Blend_repr)))
    (i_Blend___repr__ : PySem.W.isFn K (.ref m_Blend_repr) = true)
    (l_Blend___repr__ : K.lookup m_Blend_repr = some ⟨ocv2, odv2, .func (PySem.W.fnOf "__repr__" "Blend.__repr__" (defArgs s_Blend___repr__) (defBody s_Blend___repr__) (defScope s_Blend___repr__) .none kVv2 dcv2 pmv2 anv2 cdv2 ctv2), slv2⟩)
    (c_Blend___repr__ : PySem.W.codeIn K cdv2 "Blend.__repr__" = true)
    (k_Blend___repr__ : PySem.W.keepIn K (.ref m_Blend_repr) = true)
    (a_Blend___and__ : PySem.W.findIn K (.ref C) "__and__" = some (some (.ref m_Blend_and)))
    (i_Blend___and__ : PySem.W.isFn K (.ref m_Blend_and) = true)
    (l_Blend___and__ : K.lookup m_Blend_and = some ⟨ocv3, odv3, .func (PySem.W.fnOf "__and__" "Blend.__and__" (defArgs s_Blend___and__) (defBody s_Blend___and__) (defScope s_Blend___and__) .none kVv3 dcv3 pmv3 anv3 cdv3 ctv3), slv3⟩)
    (c_Blend___and__ : PySem.W.codeIn K cdv3 "Blend.__and__" = true)
    (k_Blend___and__ : PySem.W.keepIn K (.ref m_Blend_and) = true)
    (a_Blend___or__ : PySem.W.findIn K (.ref C) "__or__" = some (some (.ref m_Blend_or)))
    (i_Blend___or__ : PySem.W.isFn K (.ref m_Blend_or) = true)
    (l_Blend___or__ : K.lookup m_Blend_or = some ⟨ocv4, odv4, .func (PySem.W.fnOf "__or__" "Blend.__or__" (defArgs s_Blend___or__) (defBody s_Blend___or__) (defScope s_Blend___or__) .none kVv4 dcv4 pmv4 anv4 cdv4 ctv4), slv4⟩)
    (c_Blend___or__ : PySem.W.codeIn K cdv4 "Blend.__or__" = true)
    (k_Blend___or__ : PySem.W.keepIn K (.ref m_Blend_or) = true)
    (a_Blend___xor__ : PySem.W.findIn K (.ref C) "__xor__" = some (some (.ref m_Blend_xor)))
    (i_Blend___xor__ : PySem.W.isFn K (.ref m_Blend_xor) = true)
    (l_Blend___xor__ : K.lookup m_Blend_xor = some ⟨ocv5, odv5, .func (PySem.W.fnOf "__xor__" "Blend.__xor__" (defArgs s_Blend___xor__) (defBody s_Blend___xor__) (defScope s_Blend___xor__) .none kVv5 dcv5 pmv5 anv5 cdv5 ctv5), slv5⟩)
    (c_Blend___xor__ : PySem.W.codeIn K cdv5 "Blend.__xor__" = true)
    (k_Blend___xor__ : PySem.W.keepIn K (.ref m_Blend_xor) = true)
    (a_Blend___rand__ : PySem.W.findIn K (.ref C) "__rand__" = some (some (.ref m_Blend_rand)))
    (i_Blend___rand__ : PySem.W.isFn K (.ref m_Blend_rand) = true)
    (l_Blend___rand__ : K.lookup m_Blend_rand = some ⟨ocv6, odv6, .func (PySem.W.fnOf "__rand__" "Blend.__rand__" (defArgs s_Blend___rand__) (defBody s_Blend___rand__) (defScope s_Blend___rand__) .none kVv6 dcv6 pmv6 anv6 cdv6 ctv6), slv6⟩)
    (c_Blend___rand__ : PySem.W.codeIn K cdv6 "Blend.__rand__" = true)
    (k_Blend___rand__ : PySem.W.keepIn K (.ref m_Blend_rand) = true)
    (a_Blend___ror__ : PySem.W.findIn K (.ref C) "__ror__" = some (some (.ref m_Blend_ror)))
    (i_Blend___ror__ : PySem.W.isFn K (.ref m_Blend_ror) = true)
    (l_Blend___ror__ : K.lookup m_Blend_ror = some ⟨ocv7, odv7, .func (PySem.W.fnOf "__ror__" "Blend.__ror__" (defArgs s_Blend___ror__) (defBody s_Blend___ror__) (defScope s_Blend___ror__) .none kVv7 dcv7 pmv7 anv7 cdv7 ctv7), slv7⟩)
    (c_Blend___ror__ : PySem.W.codeIn K cdv7 "Blend.__ror__" = true)
    (k_Blend___ror__ : PySem.W.keepIn K (.ref m_Blend_ror) = true)
    (a_Blend___rxor__ : PySem.W.findIn K (.ref C) "__rxor__" = some (some (.ref m_Blend_rxor)))
    (i_Blend___rxor__ : PySem.W.isFn K (.ref m_Blend_rxor) = true)
    (l_Blend___rxor__ : K.lookup m_Blend_rxor = some ⟨ocv8, odv8, .func (PySem.W.fnOf "__rxor__" "Blend.__rxor__" (defArgs s_Blend___rxor__) (defBody s_Blend___rxor__) (defScope s_Blend___rxor__) .none kVv8 dcv8 pmv8 anv8 cdv8 ctv8), slv8⟩)
    (c_Blend___rxor__ : PySem.W.codeIn K cdv8 "Blend.__rxor__" = true)
    (k_Blend___rxor__ : PySem.W.keepIn K (.ref m_Blend_rxor) = true)
    (a_Blend___invert__ : PySem.W.findIn K (.ref C) "__invert__" = some (some (.ref m_Blend_invert)))
    (i_Blend___invert__ : PySem.W.isFn K (.ref m_Blend_invert) = true)
    (l_Blend___invert__ : K.lookup m_Blend_invert = some ⟨ocv9, odv9, .func (PySem.W.fnOf "__invert__" "Blend.__invert__" (defArgs s_Blend___invert__) (defBody s_Blend___invert__) (defScope s_Blend___invert__) .none kVv9 dcv9 pmv9 anv9 cdv9 ctv9), slv9⟩)
    (c_Blend___invert__ : PySem.W.codeIn K cdv9 "Blend.__invert__" = true)
    (k_Blend___invert__ : PySem.W.keepIn K (.ref m_Blend_invert) = true)
    (a_Blend___lshift__ : PySem.W.findIn K (.ref C) "__lshift__" = some (some (.ref m_Blend_lshift)))
    (i_Blend___lshift__ : PySem.W.isFn K (.ref m_Blend_lshift) = true)
    (l_Blend___lshift__ : K.lookup m_Blend_lshift = some ⟨ocv10, odv10, .func (PySem.W.fnOf "__lshift__" "Blend.__lshift__" (defArgs s_Blend___lshift__) (defBody s_Blend___lshift__) (defScope s_Blend___lshift__) .none kVv10 dcv10 pmv10 anv10 cdv10 ctv10), slv10⟩)
    (c_Blend___lshift__ : PySem.W.codeIn K cdv10 "Blend.__lshift__" = true)
    (k_Blend___lshift__ : PySem.W.keepIn K (.ref m_Blend_lshift) = true)
    (a_Blend___rshift__ : PySem.W.findIn K (.ref C) "__rshift__" = some (some (.ref m_Blend_rshift)))
    (i_Blend___rshift__ : PySem.W.isFn K (.ref m_Blend_rshift) = true)
    (l_Blend___rshift__ : K.lookup m_Blend_rshift = some ⟨ocv11, odv11, .func (PySem.W.fnOf "__rshift__" "Blend.__rshift__" (defArgs s_Blend___rshift__) (defBody s_Blend___rshift__) (defScope s_Blend___rshift__) .none kVv11 dcv11 pmv11 anv11 cdv11 ctv11), slv11⟩)
    (c_Blend___rshift__ : PySem.W.codeIn K cdv11 "Blend.__rshift__" = true)
    (k_Blend___rshift__ : PySem.W.keepIn K (.ref m_Blend_rshift) = true)
    (a_Blend_then : PySem.W.findIn K (.ref C) "then" = some (some (.ref m_Blend_then)))
    (i_Blend_then : PySem.W.isFn K (.ref m_Blend_then) = true)
    (l_Blend_then : K.lookup m_Blend_then = some ⟨ocv12, odv12, .func (PySem.W.fnOf "then" "Blend.then" (defArgs s_Blend_then) (defBody s_Blend_then) (defScope s_Blend_then) .none kVv12 dcv12 pmv12 anv12 cdv12 ctv12), slv12⟩)
    (c_Blend_then : PySem.W.codeIn K cdv12 "Blend.then" = true)
    (k_Blend_then : PySem.W.keepIn K (.ref m_Blend_then) = true)
    (a_Blend_sources : PySem.W.findIn K (.ref C) "sources" = some (some (.ref m_Blend_sources)))
    (i_Blend_sources : PySem.W.isFn K (.ref m_Blend_sources) = true)
    (l_Blend_sources : K.lookup m_Blend_sources = some ⟨ocv13, odv13, .func (PySem.W.fnOf "sources" "Blend.sources" (defArgs s_Blend_sources) (defBody s_Blend_sources) (defScope s_Blend_sources) .none kVv13 dcv13 pmv13 anv13 cdv13 ctv13), slv13⟩)
    (c_Blend_sources : PySem.W.codeIn K cdv13 "Blend.sources" = true)
    (k_Blend_sources : PySem.W.keepIn K (.ref m_Blend_sources) = true)
    (fnC : PySem.W.fnIn K m_Blend_call = true)
    (cdC_ : PySem.W.clsIn K C = some cdC)
    (cdm : cdC.mro = [.ref C, .type "object"])
    (sf : PySem.W.selfFirst K C = true)
    (sIC : PySem.W.subIn K (.type "int") (.ref C) = some false)
    (sCI : PySem.W.subIn K (.ref C) (.type "int") = some false)
    (i1and : PySem.W.findIn K (.type "int") "__and__" = some i1_and)
    (i2and : PySem.W.findIn K (.type "int") "__rand__" = some i2_and)
    (i1or : PySem.W.findIn K (.type "int") "__or__" = some i1_or)
    (i2or : PySem.W.findIn K (.type "int") "__ror__" = some i2_or)
    (i1xor : PySem.W.findIn K (.type "int") "__xor__" = some i1_xor)
    (i2xor : PySem.W.findIn K (.type "int") "__rxor__" = some i2_xor)
    (i1lshift : PySem.W.findIn K (.type "int") "__lshift__" = some i1_lshift)
    (i2lshift : PySem.W.findIn K (.type "int") "__rlshift__" = some i2_lshift)
    (i1rshift : PySem.W.findIn K (.type "int") "__rshift__" = some i1_rshift)
    (i2rshift : PySem.W.findIn K (.type "int") "__rrshift__" = some i2_rshift)
    (rClshift : PySem.W.findIn K (.ref C) "__rlshift__" = some none)
    (rCrshift : PySem.W.findIn K (.ref C) "__rrshift__" = some none)
    (nCand : PySem.W.findIn K (.ref C) "__iand__" = some none)
    (nOand : PySem.W.findIn K (.type "object") "__iand__" = some none)
    (nCor : PySem.W.findIn K (.ref C) "__ior__" = some none)
    (nOor : PySem.W.findIn K (.type "object") "__ior__" = some none)
    (nClshift : PySem.W.findIn K (.ref C) "__ilshift__" = some none)
    (nOlshift : PySem.W.findIn K (.type "object") "__ilshift__" = some none)
    (aIC : PySem.W.findIn K (.ref C) "is_constant" = some (some (.ref pIC)))
    (lIC : K.lookup pIC = some ⟨.type "property", ddIC, .fields vsIC, ssIC⟩)
    (vIC : vsIC.toList = .ref gIC :: rsIC)
    (spIC : PySem.W.specialIn K (.ref pIC) "__get__" = some (some (.builtin "property.__get__")))
    (l_IC : K.lookup gIC = some ⟨ocv14, odv14, .func (PySem.W.fnOf "is_constant" "Blend.is_constant" (defArgs s_Blend_is_constant) (defBody s_Blend_is_constant) (defScope s_Blend_is_constant) .none kVv14 dcv14 pmv14 anv14 cdv14 ctv14), slv14⟩)
    (c_IC : PySem.W.codeIn K cdv14 "Blend.is_constant" = true)
    (k_IC : PySem.W.keepIn K (.ref gIC) = true)
    (aCM : PySem.W.findIn K (.ref C) "constant" = some (some (.ref pCM)))
    (lCM : K.lookup pCM = some ⟨.type "classmethod", ddCM, .fields vsCM, ssCM⟩)
    (vCM : vsCM.toList = .ref gCM :: rsCM)
    (spCM : PySem.W.specialIn K (.ref pCM) "__get__" = some (some (.builtin "classmethod.__get__")))
    (l_CM : K.lookup gCM = some ⟨ocv15, odv15, .func (PySem.W.fnOf "constant" "Blend.constant" (defArgs s_Blend_constant) (defBody s_Blend_constant) (defScope s_Blend_constant) .none kVv15 dcv15 pmv15 anv15 cdv15 ctv15), slv15⟩)
    (c_CM : PySem.W.codeIn K cdv15 "Blend.constant" = true)
    (k_CM : PySem.W.keepIn K (.ref gCM) = true)
    (tIC : PySem.W.takesIn K (.ref pIC) = some true)
    (fnCM : PySem.W.fnIn K gCM = true)
    (rdC : PySem.W.readsIn K C (.type "type") = true)
    (gaC : PySem.W.specialIn K (.ref C) "__getattribute__" = some (some (.builtin "type.__getattribute__")))
    (fcC : PySem.W.findCls K (.ref C) (.type "type") "constant" = some (.get (.builtin "classmethod.__get__") (.ref pCM) .none (.ref C)))
    (n_is_int : PySem.W.nsIn K mainGlobals "is_int" = some (some (.ref f_is_int)))
    (l_is_int : K.lookup f_is_int = some ⟨ocv16, odv16, .func (PySem.W.fnOf "is_int" "is_int" (defArgs s_is_int) (defBody s_is_int) (defScope s_is_int) .none kVv16 dcv16 pmv16 anv16 cdv16 ctv16), slv16⟩)
    (c_is_int : PySem.W.codeIn K cdv16 "is_int" = true)
    (k_is_int : PySem.W.keepIn K (.ref f_is_int) = true)
    (n_is_width : PySem.W.nsIn K mainGlobals "is_width" = some (some (.ref f_is_width)))
    (l_is_width : K.lookup f_is_width = some ⟨ocv17, odv17, .func (PySem.W.fnOf "is_width" "is_width" (defArgs s_is_width) (defBody s_is_width) (defScope s_is_width) .none kVv17 dcv17 pmv17 anv17 cdv17 ctv17), slv17⟩)
    (c_is_width : PySem.W.codeIn K cdv17 "is_width" = true)
    (k_is_width : PySem.W.keepIn K (.ref f_is_width) = true)
    (n_full_word : PySem.W.nsIn K mainGlobals "full_word" = some (some (.ref f_full_word)))
    (l_full_word : K.lookup f_full_word = some ⟨ocv18, odv18, .func (PySem.W.fnOf "full_word" "full_word" (defArgs s_full_word) (defBody s_full_word) (defScope s_full_word) .none kVv18 dcv18 pmv18 anv18 cdv18 ctv18), slv18⟩)
    (c_full_word : PySem.W.codeIn K cdv18 "full_word" = true)
    (k_full_word : PySem.W.keepIn K (.ref f_full_word) = true)
    (n_is_word : PySem.W.nsIn K mainGlobals "is_word" = some (some (.ref f_is_word)))
    (l_is_word : K.lookup f_is_word = some ⟨ocv19, odv19, .func (PySem.W.fnOf "is_word" "is_word" (defArgs s_is_word) (defBody s_is_word) (defScope s_is_word) .none kVv19 dcv19 pmv19 anv19 cdv19 ctv19), slv19⟩)
    (c_is_word : PySem.W.codeIn K cdv19 "is_word" = true)
    (k_is_word : PySem.W.keepIn K (.ref f_is_word) = true)
    (n_shifted : PySem.W.nsIn K mainGlobals "shifted" = some (some (.ref f_shifted)))
    (l_shifted : K.lookup f_shifted = some ⟨ocv20, odv20, .func (PySem.W.fnOf "shifted" "shifted" (defArgs s_shifted) (defBody s_shifted) (defScope s_shifted) .none kVv20 dcv20 pmv20 anv20 cdv20 ctv20), slv20⟩)
    (c_shifted : PySem.W.codeIn K cdv20 "shifted" = true)
    (k_shifted : PySem.W.keepIn K (.ref f_shifted) = true)
    (n_check_word : PySem.W.nsIn K mainGlobals "check_word" = some (some (.ref f_check_word)))
    (l_check_word : K.lookup f_check_word = some ⟨ocv21, odv21, .func (PySem.W.fnOf "check_word" "check_word" (defArgs s_check_word) (defBody s_check_word) (defScope s_check_word) .none kVv21 dcv21 pmv21 anv21 cdv21 ctv21), slv21⟩)
    (c_check_word : PySem.W.codeIn K cdv21 "check_word" = true)
    (k_check_word : PySem.W.keepIn K (.ref f_check_word) = true)
    (n_check_shift : PySem.W.nsIn K mainGlobals "check_shift" = some (some (.ref f_check_shift)))
    (l_check_shift : K.lookup f_check_shift = some ⟨ocv22, odv22, .func (PySem.W.fnOf "check_shift" "check_shift" (defArgs s_check_shift) (defBody s_check_shift) (defScope s_check_shift) .none kVv22 dcv22 pmv22 anv22 cdv22 ctv22), slv22⟩)
    (c_check_shift : PySem.W.codeIn K cdv22 "check_shift" = true)
    (k_check_shift : PySem.W.keepIn K (.ref f_check_shift) = true)
    (n__law_pen : PySem.W.nsIn K mainGlobals "_law_pen" = some (some (.ref f__law_pen)))
    (l__law_pen : K.lookup f__law_pen = some ⟨ocv23, odv23, .func (PySem.W.fnOf "_law_pen" "_law_pen" (defArgs s__law_pen) (defBody s__law_pen) (defScope s__law_pen) .none kVv23 dcv23 pmv23 anv23 cdv23 ctv23), slv23⟩)
    (c__law_pen : PySem.W.codeIn K cdv23 "_law_pen" = true)
    (k__law_pen : PySem.W.keepIn K (.ref f__law_pen) = true)
    (n__law_draw : PySem.W.nsIn K mainGlobals "_law_draw" = some (some (.ref f__law_draw)))
    (l__law_draw : K.lookup f__law_draw = some ⟨ocv24, odv24, .func (PySem.W.fnOf "_law_draw" "_law_draw" (defArgs s__law_draw) (defBody s__law_draw) (defScope s__law_draw) .none kVv24 dcv24 pmv24 anv24 cdv24 ctv24), slv24⟩)
    (c__law_draw : PySem.W.codeIn K cdv24 "_law_draw" = true)
    (k__law_draw : PySem.W.keepIn K (.ref f__law_draw) = true)
    (n__law_word : PySem.W.nsIn K mainGlobals "_law_word" = some (some (.ref f__law_word)))
    (l__law_word : K.lookup f__law_word = some ⟨ocv25, odv25, .func (PySem.W.fnOf "_law_word" "_law_word" (defArgs s__law_word) (defBody s__law_word) (defScope s__law_word) .none kVv25 dcv25 pmv25 anv25 cdv25 ctv25), slv25⟩)
    (c__law_word : PySem.W.codeIn K cdv25 "_law_word" = true)
    (k__law_word : PySem.W.keepIn K (.ref f__law_word) = true)
    (n__law_top : PySem.W.nsIn K mainGlobals "_law_top" = some (some (.ref f__law_top)))
    (l__law_top : K.lookup f__law_top = some ⟨ocv26, odv26, .func (PySem.W.fnOf "_law_top" "_law_top" (defArgs s__law_top) (defBody s__law_top) (defScope s__law_top) .none kVv26 dcv26 pmv26 anv26 cdv26 ctv26), slv26⟩)
    (c__law_top : PySem.W.codeIn K cdv26 "_law_top" = true)
    (k__law_top : PySem.W.keepIn K (.ref f__law_top) = true)
    (n__law_moved : PySem.W.nsIn K mainGlobals "_law_moved" = some (some (.ref f__law_moved)))
    (l__law_moved : K.lookup f__law_moved = some ⟨ocv27, odv27, .func (PySem.W.fnOf "_law_moved" "_law_moved" (defArgs s__law_moved) (defBody s__law_moved) (defScope s__law_moved) .none kVv27 dcv27 pmv27 anv27 cdv27 ctv27), slv27⟩)
    (c__law_moved : PySem.W.codeIn K cdv27 "_law_moved" = true)
    (k__law_moved : PySem.W.keepIn K (.ref f__law_moved) = true)
    (n__law_done : PySem.W.nsIn K mainGlobals "_law_done" = some (some (.ref f__law_done)))
    (l__law_done : K.lookup f__law_done = some ⟨ocv28, odv28, .func (PySem.W.fnOf "_law_done" "_law_done" (defArgs s__law_done) (defBody s__law_done) (defScope s__law_done) .none kVv28 dcv28 pmv28 anv28 cdv28 ctv28), slv28⟩)
    (c__law_done : PySem.W.codeIn K cdv28 "_law_done" = true)
    (k__law_done : PySem.W.keepIn K (.ref f__law_done) = true)
    (n__law_begun : PySem.W.nsIn K mainGlobals "_law_begun" = some (some (.ref f__law_begun)))
    (l__law_begun : K.lookup f__law_begun = some ⟨ocv29, odv29, .func (PySem.W.fnOf "_law_begun" "_law_begun" (defArgs s__law_begun) (defBody s__law_begun) (defScope s__law_begun) .none kVv29 dcv29 pmv29 anv29 cdv29 ctv29), slv29⟩)
    (c__law_begun : PySem.W.codeIn K cdv29 "_law_begun" = true)
    (k__law_begun : PySem.W.keepIn K (.ref f__law_begun) = true)
    (n__law_step : PySem.W.nsIn K mainGlobals "_law_step" = some (some (.ref f__law_step)))
    (l__law_step : K.lookup f__law_step = some ⟨ocv30, odv30, .func (PySem.W.fnOf "_law_step" "_law_step" (defArgs s__law_step) (defBody s__law_step) (defScope s__law_step) .none kVv30 dcv30 pmv30 anv30 cdv30 ctv30), slv30⟩)
    (c__law_step : PySem.W.codeIn K cdv30 "_law_step" = true)
    (k__law_step : PySem.W.keepIn K (.ref f__law_step) = true)
    (n__law_normal : PySem.W.nsIn K mainGlobals "_law_normal" = some (some (.ref f__law_normal)))
    (l__law_normal : K.lookup f__law_normal = some ⟨ocv31, odv31, .func (PySem.W.fnOf "_law_normal" "_law_normal" (defArgs s__law_normal) (defBody s__law_normal) (defScope s__law_normal) .none kVv31 dcv31 pmv31 anv31 cdv31 ctv31), slv31⟩)
    (c__law_normal : PySem.W.codeIn K cdv31 "_law_normal" = true)
    (k__law_normal : PySem.W.keepIn K (.ref f__law_normal) = true)
    (n__law_right : PySem.W.nsIn K mainGlobals "_law_right" = some (some (.ref f__law_right)))
    (l__law_right : K.lookup f__law_right = some ⟨ocv32, odv32, .func (PySem.W.fnOf "_law_right" "_law_right" (defArgs s__law_right) (defBody s__law_right) (defScope s__law_right) .none kVv32 dcv32 pmv32 anv32 cdv32 ctv32), slv32⟩)
    (c__law_right : PySem.W.codeIn K cdv32 "_law_right" = true)
    (k__law_right : PySem.W.keepIn K (.ref f__law_right) = true)
    (n_law : PySem.W.nsIn K mainGlobals "law" = some (some (.ref f_law)))
    (l_law : K.lookup f_law = some ⟨ocv33, odv33, .func (PySem.W.fnOf "law" "law" (defArgs s_law) (defBody s_law) (defScope s_law) .none kVv33 dcv33 pmv33 anv33 cdv33 ctv33), slv33⟩)
    (c_law : PySem.W.codeIn K cdv33 "law" = true)
    (k_law : PySem.W.keepIn K (.ref f_law) = true) :
    ∃ fd : FuncData, (∀ (s : Shared) (v : Value), BindsTo s fd ⟨[v], []⟩ [("_law_script", v)]) ∧ ∀ base : Heap, K.In base → base.Ns mainGlobals mg → Gd l.prog w K mg base CX0 9 fa fd ["_law_script"] (spLaw K) := by
  have e := hfa.symm.trans (PySem.W.mg_of X G n_law)
  cases e

  have B : B1 mg := ⟨PySem.W.mg_none_of X G no_int, PySem.W.mg_none_of X G no_len, PySem.W.mg_none_of X G no_abs, PySem.W.mg_none_of X G no_list, PySem.W.mg_none_of X G no_repr, PySem.W.mg_none_of X G no_range, PySem.W.mg_none_of X G no_str, PySem.W.mg_none_of X G no_isinstance, PySem.W.mg_none_of X G no_bool, PySem.W.mg_none_of X G no_tuple⟩
  let tl : Int → Addr := fun w => if w = 8 then t8 else if w = 16 then t16 else t32
  have T : T1 K w mg C aL aL tl := {
    g_Blend := PySem.W.mg_of X G n_Blend
    g_LANES := PySem.W.mg_of X G n_LANES
    kid := ⟨loL, [⟨hs1, .int 8 ku1, .ref t8⟩, ⟨hs2, .int 16 ku2, .ref t16⟩, ⟨hs3, .int 32 ku3, .ref t32⟩], nL, lL, .cons ⟨_, rfl⟩ eh1 rfl (.cons ⟨_, rfl⟩ eh2 rfl (.cons ⟨_, rfl⟩ eh3 rfl .nil))⟩
    cl := ⟨pg, hd, po, fd_C_setattr⟩
    nW := fd_C_width
    nS := fd_C_shift
    nK := fd_C_keep
    nF := fd_C_flip
    isC := fd_C_class
    isG := isG
    isT := isT
    isM := isM }
  have TE0 : ErrC l.prog K E0 fI0 "InvalidWidth.__init__" "value" "value" (defArgs s_InvalidWidth___init__) (defBody s_InvalidWidth___init__) (defScope s_InvalidWidth___init__) := {
    cls := ⟨⟨_, _, _, _, _, _, _, _, _, _, _, _, _, _, _, clE0, veE0⟩, fd_E0_setattr, sB0, ty0, kE0⟩
    ini := iniE0
    fn := fnE0
    fun_ := ⟨_, _, _, _, _, _, _, _, _, _, _, _, _, _, _, _, _, _, _, lE0, cE0, lC0, vE0, fE0, lcc0⟩
    self_ := mE0
    up := sup_up clE0 cBE mBE0 fBE
    sub := sV0
    opq := opq
    nosup := no_super
    top := topE
    nofld := fd_E0_value }
  refine ⟨PySem.W.fnOf "law" "law" (defArgs s_law) (defBody s_law) (defScope s_law) .none kVv33 dcv33 pmv33 anv33 cdv33 ctv33, fun s v => .of_eq rfl, fun base _ _ => ?_⟩
  have Dis_int := defAt_of X G n_is_int l_is_int c_is_int k_is_int bd_is_int
  have Dis_width := defAt_of X G n_is_width l_is_width c_is_width k_is_width bd_is_width
  have Dfull_word := defAt_of X G n_full_word l_full_word c_full_word k_full_word bd_full_word
  have Dis_word := defAt_of X G n_is_word l_is_word c_is_word k_is_word bd_is_word
  have Dshifted := defAt_of X G n_shifted l_shifted c_shifted k_shifted bd_shifted
  have Dcheck_word := defAt_of X G n_check_word l_check_word c_check_word k_check_word bd_check_word
  have Dcheck_shift := defAt_of X G n_check_shift l_check_shift c_check_shift k_check_shift bd_check_shift
  have D_law_pen := defAt_of X G n__law_pen l__law_pen c__law_pen k__law_pen bd__law_pen
  have D_law_draw := defAt_of X G n__law_draw l__law_draw c__law_draw k__law_draw bd__law_draw
  have D_law_word := defAt_of X G n__law_word l__law_word c__law_word k__law_word bd__law_word
  have D_law_top := defAt_of X G n__law_top l__law_top c__law_top k__law_top bd__law_top
  have D_law_moved := defAt_of X G n__law_moved l__law_moved c__law_moved k__law_moved bd__law_moved
  have D_law_done := defAt_of X G n__law_done l__law_done c__law_done k__law_done bd__law_done
  have D_law_begun := defAt_of X G n__law_begun l__law_begun c__law_begun k__law_begun bd__law_begun
  have D_law_step := defAt_of X G n__law_step l__law_step c__law_step k__law_step bd__law_step
  have D_law_normal := defAt_of X G n__law_normal l__law_normal c__law_normal k__law_normal bd__law_normal
  have D_law_right := defAt_of X G n__law_right l__law_right c__law_right k__law_right bd__law_right
  have M_call := metAt_of a_Blend___call__ i_Blend___call__ l_Blend___call__ c_Blend___call__ k_Blend___call__ bd_Blend___call__
  have M_repr := metAt_of a_Blend___repr__ i_Blend___repr__ l_Blend___repr__ c_Blend___repr__ k_Blend___repr__ bd_Blend___repr__
  have M_and := metAt_of a_Blend___and__ i_Blend___and__ l_Blend___and__ c_Blend___and__ k_Blend___and__ bd_Blend___and__
  have M_or := metAt_of a_Blend___or__ i_Blend___or__ l_Blend___or__ c_Blend___or__ k_Blend___or__ bd_Blend___or__
  have M_xor := metAt_of a_Blend___xor__ i_Blend___xor__ l_Blend___xor__ c_Blend___xor__ k_Blend___xor__ bd_Blend___xor__
  have M_rand := metAt_of a_Blend___rand__ i_Blend___rand__ l_Blend___rand__ c_Blend___rand__ k_Blend___rand__ bd_Blend___rand__
  have M_ror := metAt_of a_Blend___ror__ i_Blend___ror__ l_Blend___ror__ c_Blend___ror__ k_Blend___ror__ bd_Blend___ror__
  have M_rxor := metAt_of a_Blend___rxor__ i_Blend___rxor__ l_Blend___rxor__ c_Blend___rxor__ k_Blend___rxor__ bd_Blend___rxor__
  have M_invert := metAt_of a_Blend___invert__ i_Blend___invert__ l_Blend___invert__ c_Blend___invert__ k_Blend___invert__ bd_Blend___invert__
  have M_lshift := metAt_of a_Blend___lshift__ i_Blend___lshift__ l_Blend___lshift__ c_Blend___lshift__ k_Blend___lshift__ bd_Blend___lshift__
  have M_rshift := metAt_of a_Blend___rshift__ i_Blend___rshift__ l_Blend___rshift__ c_Blend___rshift__ k_Blend___rshift__ bd_Blend___rshift__
  have M_then := metAt_of a_Blend_then i_Blend_then l_Blend_then c_Blend_then k_Blend_then bd_Blend_then
  have M_sources := metAt_of a_Blend_sources i_Blend_sources l_Blend_sources c_Blend_sources k_Blend_sources bd_Blend_sources
  have FI : FunD K "__init__" "Blend.__init__" (defArgs s_Blend___init__) (defBody s_Blend___init__) (defScope s_Blend___init__) [.int 0, .non, .int 0] [] fT _ :=
    ⟨⟨_, _, _, _, _, _, _, _, _, _, rfl, l_init, c_init, .inr ⟨by simp, TD, _, [.int 0 tu1, .none, .int 0 tu2], nT, rfl, lTD, rfl, .cons ⟨_, rfl⟩ (.cons rfl (.cons ⟨_, rfl⟩ .nil))⟩, .inl rfl⟩, k_init⟩
  obtain ⟨⟨d2, v2, b2⟩, ⟨d3, v3, b3⟩, b5⟩ := bind_blend FI
  have cInt := ok_is_int (P := l.prog) (w := w) (base := base) Dis_int B
  have cWd := ok_is_width (P := l.prog) (w := w) (base := base) Dis_width T cInt
  have cFw := ok_full_word (P := l.prog) (w := w) (base := base) Dfull_word
  have cIw := ok_is_word (P := l.prog) (w := w) (base := base) Dis_word cInt cFw
  have cCw := ok_check_word (P := l.prog) (w := w) (base := base) Dcheck_word cIw
  have cCs := ok_check_shift (P := l.prog) (w := w) (base := base) Dcheck_shift cInt
  have cSh := ok_shifted (P := l.prog) (w := w) (base := base) Dshifted cFw
  have g0 := PySem.W.mg_of X G n_InvalidWidth
  have GI := ok_BI (P := l.prog) (w := w) (base := base) FI T g0 TE0 errX0 cWd cCs cFw cCw cSh
  have MK : Mk K C fT := ⟨mk, a_init, i_init, kc⟩
  obtain ⟨fdc, xc, Fc, bc, Gc⟩ := ok_call (P := l.prog) (w := w) (base := base) M_call T cCw cSh
  obtain ⟨fdr, xr, Fr, br, Gr⟩ := ok_RP (P := l.prog) (w := w) (base := base) M_repr T
  obtain ⟨f1, x1, F1, b1, G1⟩ := ok_and (P := l.prog) (w := w) (base := base) M_and T MK GI b5 cCw
  obtain ⟨f2, x2, F2, b2', G2⟩ := ok_or (P := l.prog) (w := w) (base := base) M_or T MK GI b5 cCw cFw
  obtain ⟨f3, x3, F3, b3', G3⟩ := ok_xor (P := l.prog) (w := w) (base := base) M_xor T MK GI b5 cCw
  have oA : OpAt K C m_Blend_and .BitAnd := ⟨sf, a_Blend___and__, i_Blend___and__, ⟨_, a_Blend___rand__, .inr ⟨_, rfl⟩⟩, ⟨_, i1and⟩, ⟨_, i2and⟩, sIC⟩
  have oO : OpAt K C m_Blend_or .BitOr := ⟨sf, a_Blend___or__, i_Blend___or__, ⟨_, a_Blend___ror__, .inr ⟨_, rfl⟩⟩, ⟨_, i1or⟩, ⟨_, i2or⟩, sIC⟩
  have oX : OpAt K C m_Blend_xor .BitXor := ⟨sf, a_Blend___xor__, i_Blend___xor__, ⟨_, a_Blend___rxor__, .inr ⟨_, rfl⟩⟩, ⟨_, i1xor⟩, ⟨_, i2xor⟩, sIC⟩
  have oL : OpAt K C m_Blend_lshift .LShift := ⟨sf, a_Blend___lshift__, i_Blend___lshift__, ⟨_, rClshift, .inl rfl⟩, ⟨_, i1lshift⟩, ⟨_, i2lshift⟩, sIC⟩
  have oS : OpAt K C m_Blend_rshift .RShift := ⟨sf, a_Blend___rshift__, i_Blend___rshift__, ⟨_, rCrshift, .inl rfl⟩, ⟨_, i1rshift⟩, ⟨_, i2rshift⟩, sIC⟩
  have noI : ∀ {nm : String}, PySem.W.findIn K (.ref C) (dunderI nm) = some none → PySem.W.findIn K (.type "object") (dunderI nm) = some none → ∃ cd, PySem.W.clsIn K C = some cd ∧ ∀ c ∈ cd.mro, PySem.W.findIn K c (dunderI nm) = some none := fun {nm} h1 h2 => ⟨cdC, cdC_, fun c hc => by
    rw [cdm] at hc
    rcases List.mem_cons.mp hc with rfl | hc
    · exact h1
    · rw [List.mem_singleton.mp hc]
      exact h2⟩
  have nA : InAt K C m_Blend_and .BitAnd := { toOpAt := oA, none_ := noI (nm := "and") nCand nOand, fills := rfl }
  have nO : InAt K C m_Blend_or .BitOr := { toOpAt := oO, none_ := noI (nm := "or") nCor nOor, fills := rfl }
  have nL : InAt K C m_Blend_lshift .LShift := { toOpAt := oL, none_ := noI (nm := "lshift") nClshift nOlshift, fills := rfl }
  have kA : BackAt K C m_Blend_and m_Blend_rand .BitAnd "int.__and__" := ⟨sf, a_Blend___and__, a_Blend___rand__, i_Blend___rand__, sCI, rfl, nay_and⟩
  have kO : BackAt K C m_Blend_or m_Blend_ror .BitOr "int.__or__" := ⟨sf, a_Blend___or__, a_Blend___ror__, i_Blend___ror__, sCI, rfl, nay_or⟩
  have kX : BackAt K C m_Blend_xor m_Blend_rxor .BitXor "int.__xor__" := ⟨sf, a_Blend___xor__, a_Blend___rxor__, i_Blend___rxor__, sCI, rfl, nay_xor⟩
  obtain ⟨f4, x4, F4, b4, G4⟩ := ok_rand (P := l.prog) (w := w) (base := base) M_rand oA G1 b1
  obtain ⟨f5, x5, F5, b5', G5⟩ := ok_ror (P := l.prog) (w := w) (base := base) M_ror oO G2 b2'
  obtain ⟨f6, x6, F6, b6, G6⟩ := ok_rxor (P := l.prog) (w := w) (base := base) M_rxor oX G3 b3'
  obtain ⟨f7, x7, F7, b7, G7⟩ := ok_inv (P := l.prog) (w := w) (base := base) M_invert T oX G3 b3' cFw
  obtain ⟨f8, x8, F8, b8, G8⟩ := ok_then (P := l.prog) (w := w) (base := base) M_then T MK GI b5 cSh
  obtain ⟨f9, x9, F9, b9, G9⟩ := ok_shl (P := l.prog) (w := w) (base := base) M_lshift T MK GI v3 b3 cCs x8 G8 b8
  obtain ⟨f10, x10, F10, b10, G10⟩ := ok_shr (P := l.prog) (w := w) (base := base) M_rshift T MK GI v3 b3 cCs x8 G8 b8
  obtain ⟨f11, x11, b11, G11⟩ := ok_src (P := l.prog) (w := w) (base := base) M_sources T B
  have FIC := fun_mk (st := s_Blend_is_constant) l_IC c_IC k_IC
  have FCM := fun_mk (st := s_Blend_constant) l_CM c_CM k_CM
  have G12 := ok_isc (P := l.prog) (w := w) (base := base) FIC T
  have G13 := ok_cst (P := l.prog) (w := w) (base := base) FCM T MK GI b5
  have PIC : PropOf K C "is_constant" pIC gIC := ⟨aIC, spIC, tIC, rsIC, rec_at lIC vIC⟩
  have CM : ClX.CMet K C (.type "type") "constant" pCM gCM := ⟨fcC, ⟨rsCM, rec_at lCM vCM⟩, fnCM⟩
  have CR : ClX.CRead K C (.type "type") := ⟨rdC, gaC⟩
  have cDr := ok_draw (P := l.prog) (w := w) (base := base) D_law_draw (bi_of B)
  have cPn := ok_pen (P := l.prog) (w := w) (base := base) D_law_pen (bi_of B)
  have cWo := ok_word (P := l.prog) (w := w) (base := base) D_law_word B cDr
  have cTp := ok_top (P := l.prog) (w := w) (base := base) D_law_top
  have cMv := ok_moved (P := l.prog) (w := w) (base := base) D_law_moved cTp
  have cDn := ok_done (P := l.prog) (w := w) (base := base) D_law_done cTp cMv
  have cBg := ok_begun (P := l.prog) (w := w) (base := base) D_law_begun T MK GI v2 b2 b5 CR CM G13 (FCM.binds bd_Blend_constant) cDr cWo cTp
  have cSt := ok_step (P := l.prog) (w := w) (base := base) D_law_step T G1 b1 oA nA kA G4 b4 G2 b2' oO nO kO G5 b5' G3 b3' oX kX G6 b6 G9 b9 oL nL G10 b10 oS a_Blend___invert__ i_Blend___invert__ G7 b7 cDr cWo
  have cNo := ok_normal (P := l.prog) (w := w) (base := base) D_law_normal B (PySem.W.mg_none_of X G no_sorted) cDn
  have cRi := ok_right (P := l.prog) (w := w) (base := base) D_law_right T B cTp cDn cNo a_Blend___call__ i_Blend___call__ fnC Gc bc Gr br a_Blend___repr__ i_Blend___repr__ PIC G12 (FIC.binds bd_Blend_is_constant) x11 G11 b11
  exact ok_law (C := C) (fun_mk (st := s_law) l_law c_law k_law) B cPn cDr cWo cBg cSt cRi
end Law
open PySem PySem.W PyProof.Rows
set_option maxRecDepth 100000 in
set_option maxHeartbeats 0 in
theorem PySem.Challenge.cw_keptbits_k02_blends_by_operations_holds : PySem.Challenge.rw_keptbits_k02_blends_by_operations.Holds := by
  w_on; o_law; k_head; (case hw => w_witness2)
  k_fill
  refine KG.walk_gdK (CX := L2.CX0) (sp := Law.spLaw) (k := 9) (n := 63) (x := "_law_script") (l := PySem.Challenge.rw_keptbits_k02_blends_by_operations) rfl (by decide) rfl ⟨rfl, by decide, by decide⟩ (fun w h Y => PySem.W.kIn_of Y) ?F ?g1 ?g2
  case g1 => exact fun K H a ns hl _ hS => ⟨a, ns, rfl, hS, hl, fun _ => rfl⟩
  case g2 => exact fun _ _ _ _ z => z
  case F =>
    intro w mg fa h KX G hmg
    refine' Law.all KX G hmg ?n_Blend ?n_BitError ?n_LANES ?no_sorted ?no_int ?no_len ?no_abs ?no_list ?no_repr ?no_range ?no_str ?no_isinstance ?no_bool ?no_tuple ?no_ValueError ?no_super ?pg ?hd ?po ?fd_C_setattr ?fd_C_class ?isM ?tyC ?fd_C_width ?fd_C_shift ?fd_C_keep ?fd_C_flip ?isG ?isT ?mk ?kc ?sBB ?hBE ?tBE ?lL ?eh1 ?eh2 ?eh3 ?loL ?n_InvalidWidth ?hD0 ?ty0 ?sB0 ?fd_E0_value ?sV0 ?fBE ?cBE ?opq ?topE ?clE0 ?veE0 ?fd_E0_setattr ?kE0 ?iniE0 ?fnE0 ?lE0 ?cE0 ?lC0 ?vE0 ?fE0 ?lcc0 ?mE0 ?mBE0 ?a_init ?i_init ?l_init ?c_init ?k_init ?lTD ?a_Blend___call__ ?i_Blend___call__ ?l_Blend___call__ ?c_Blend___call__ ?k_Blend___call__ ?a_Blend___repr__ ?i_Blend___repr__ ?l_Blend___repr__ ?c_Blend___repr__ ?k_Blend___repr__ ?a_Blend___and__ ?i_Blend___and__ ?l_Blend___and__ ?c_Blend___and__ ?k_Blend___and__ ?a_Blend___or__ ?i_Blend___or__ ?l_Blend___or__ ?c_Blend___or__ ?k_Blend___or__ ?a_Blend___xor__ ?i_Blend___xor__ ?l_Blend___xor__ ?c_Blend___xor__ ?k_Blend___xor__ ?a_Blend___rand__ ?i_Blend___rand__ ?l_Blend___rand__ ?c_Blend___rand__ ?k_Blend___rand__ ?a_Blend___ror__ ?i_Blend___ror__ ?l_Blend___ror__ ?c_Blend___ror__ ?k_Blend___ror__ ?a_Blend___rxor__ ?i_Blend___rxor__ ?l_Blend___rxor__ ?c_Blend___rxor__ ?k_Blend___rxor__ ?a_Blend___invert__ ?i_Blend___invert__ ?l_Blend___invert__ ?c_Blend___invert__ ?k_Blend___invert__ ?a_Blend___lshift__ ?i_Blend___lshift__ ?l_Blend___lshift__ ?c_Blend___lshift__ ?k_Blend___lshift__ ?a_Blend___rshift__ ?i_Blend___rshift__ ?l_Blend___rshift__ ?c_Blend___rshift__ ?k_Blend___rshift__ ?a_Blend_then ?i_Blend_then ?l_Blend_then ?c_Blend_then ?k_Blend_then ?a_Blend_sources ?i_Blend_sources ?l_Blend_sources ?c_Blend_sources ?k_Blend_sources ?fnC ?cdC_ ?cdm ?sf ?sIC ?sCI ?i1and ?i2and ?i1or ?i2or ?i1xor ?i2xor ?i1lshift ?i2lshift ?i1rshift ?i2rshift ?rClshift ?rCrshift ?nCand ?nOand ?nCor ?nOor ?nClshift ?nOlshift ?aIC ?lIC ?vIC ?spIC ?l_IC ?c_IC ?k_IC ?aCM ?lCM ?vCM ?spCM ?l_CM ?c_CM ?k_CM ?tIC ?fnCM ?rdC ?gaC ?fcC ?n_is_int ?l_is_int ?c_is_int ?k_is_int ?n_is_width ?l_is_width ?c_is_width ?k_is_width ?n_full_word ?l_full_word ?c_full_word ?k_full_word ?n_is_word ?l_is_word ?c_is_word ?k_is_word ?n_shifted ?l_shifted ?c_shifted ?k_shifted ?n_check_word ?l_check_word ?c_check_word ?k_check_word ?n_check_shift ?l_check_shift ?c_check_shift ?k_check_shift ?n__law_pen ?l__law_pen ?c__law_pen ?k__law_pen ?n__law_draw ?l__law_draw ?c__law_draw ?k__law_draw ?n__law_word ?l__law_word ?c__law_word ?k__law_word ?n__law_top ?l__law_top ?c__law_top ?k__law_top ?n__law_moved ?l__law_moved ?c__law_moved ?k__law_moved ?n__law_done ?l__law_done ?c__law_done ?k__law_done ?n__law_begun ?l__law_begun ?c__law_begun ?k__law_begun ?n__law_step ?l__law_step ?c__law_step ?k__law_step ?n__law_normal ?l__law_normal ?c__law_normal ?k__law_normal ?n__law_right ?l__law_right ?c__law_right ?k__law_right ?n_law ?l_law ?c_law ?k_law
    (case n_Blend => k_is)
    (case n_BitError => k_is)
    (case n_LANES => k_is)
    (case no_sorted => k_is)
    (case no_int => k_is)
    (case no_len => k_is)
    (case no_abs => k_is)
    (case no_list => k_is)
    (case no_repr => k_is)
    (case no_range => k_is)
    (case no_str => k_is)
    (case no_isinstance => k_is)
    (case no_bool => k_is)
    (case no_tuple => k_is)
    (case no_ValueError => k_is)
    (case no_super => k_is)
    (case pg => k_is)
    (case hd => k_is)
    (case po => k_is)
    (case fd_C_setattr => k_is)
    (case fd_C_class => k_is)
    (case isM => k_is)
    (case tyC => k_is)
    (case fd_C_width => k_is)
    (case fd_C_shift => k_is)
    (case fd_C_keep => k_is)
    (case fd_C_flip => k_is)
    (case isG => k_is)
    (case isT => k_is)
    (case mk => k_is)
    (case kc => k_is)
    (case sBB => k_is)
    (case hBE => k_is)
    (case tBE => k_is)
    (case lL => k_is)
    (case eh1 => first | rfl | decide +kernel)
    (case eh2 => first | rfl | decide +kernel)
    (case eh3 => first | rfl | decide +kernel)
    (case loL => rfl)
    (case n_InvalidWidth => k_is)
    (case hD0 => k_is)
    (case ty0 => k_is)
    (case sB0 => k_is)
    (case fd_E0_value => k_is)
    (case sV0 => k_is)
    (case fBE => k_is)
    (case cBE => k_is)
    (case opq => k_is)
    (case topE => rfl)
    (case clE0 => k_is)
    (case veE0 => rfl)
    (case fd_E0_setattr => k_is)
    (case kE0 => k_is)
    (case iniE0 => k_is)
    (case fnE0 => k_is)
    (case lE0 => k_is)
    (case cE0 => k_is)
    (case lC0 => k_is)
    (case vE0 => rfl)
    (case fE0 => rfl)
    (case lcc0 => k_is)
    (case mE0 => k_is)
    (case mBE0 => rfl)
    (case a_init => k_is)
    (case i_init => k_is)
    (case l_init => k_is)
    (case c_init => k_is)
    (case k_init => k_is)
    (case lTD => k_is)
    (case a_Blend___call__ => k_is)
    (case i_Blend___call__ => k_is)
    (case l_Blend___call__ => k_is)
    (case c_Blend___call__ => k_is)
    (case k_Blend___call__ => k_is)
    (case a_Blend___repr__ => k_is)
    (case i_Blend___repr__ => k_is)
    (case l_Blend___repr__ => k_is)
    (case c_Blend___repr__ => k_is)
    (case k_Blend___repr__ => k_is)
    (case a_Blend___and__ => k_is)
    (case i_Blend___and__ => k_is)
    (case l_Blend___and__ => k_is)
    (case c_Blend___and__ => k_is)
    (case k_Blend___and__ => k_is)
    (case a_Blend___or__ => k_is)
    (case i_Blend___or__ => k_is)
    (case l_Blend___or__ => k_is)
    (case c_Blend___or__ => k_is)
    (case k_Blend___or__ => k_is)
    (case a_Blend___xor__ => k_is)
    (case i_Blend___xor__ => k_is)
    (case l_Blend___xor__ => k_is)
    (case c_Blend___xor__ => k_is)
    (case k_Blend___xor__ => k_is)
    (case a_Blend___rand__ => k_is)
    (case i_Blend___rand__ => k_is)
    (case l_Blend___rand__ => k_is)
    (case c_Blend___rand__ => k_is)
    (case k_Blend___rand__ => k_is)
    (case a_Blend___ror__ => k_is)
    (case i_Blend___ror__ => k_is)
    (case l_Blend___ror__ => k_is)
    (case c_Blend___ror__ => k_is)
    (case k_Blend___ror__ => k_is)
    (case a_Blend___rxor__ => k_is)
    (case i_Blend___rxor__ => k_is)
    (case l_Blend___rxor__ => k_is)
    (case c_Blend___rxor__ => k_is)
    (case k_Blend___rxor__ => k_is)
    (case a_Blend___invert__ => k_is)
    (case i_Blend___invert__ => k_is)
    (case l_Blend___invert__ => k_is)
    (case c_Blend___invert__ => k_is)
    (case k_Blend___invert__ => k_is)
    (case a_Blend___lshift__ => k_is)
    (case i_Blend___lshift__ => k_is)
    (case l_Blend___lshift__ => k_is)
    (case c_Blend___lshift__ => k_is)
    (case k_Blend___lshift__ => k_is)
    (case a_Blend___rshift__ => k_is)
    (case i_Blend___rshift__ => k_is)
    (case l_Blend___rshift__ => k_is)
    (case c_Blend___rshift__ => k_is)
    (case k_Blend___rshift__ => k_is)
    (case a_Blend_then => k_is)
    (case i_Blend_then => k_is)
    (case l_Blend_then => k_is)
    (case c_Blend_then => k_is)
    (case k_Blend_then => k_is)
    (case a_Blend_sources => k_is)
    (case i_Blend_sources => k_is)
    (case l_Blend_sources => k_is)
    (case c_Blend_sources => k_is)
    (case k_Blend_sources => k_is)
    (case fnC => first | k_is | kernel_rfl)
    (case cdC_ => k_is)
    (case cdm => rfl)
    (case sf => first | k_is | kernel_rfl)
    (case sIC => k_is)
    (case sCI => k_is)
    (case i1and => k_is)
    (case i2and => k_is)
    (case i1or => k_is)
    (case i2or => k_is)
    (case i1xor => k_is)
    (case i2xor => k_is)
    (case i1lshift => k_is)
    (case i2lshift => k_is)
    (case i1rshift => k_is)
    (case i2rshift => k_is)
    (case rClshift => k_is)
    (case rCrshift => k_is)
    (case nCand => k_is)
    (case nOand => k_is)
    (case nCor => k_is)
    (case nOor => k_is)
    (case nClshift => k_is)
    (case nOlshift => k_is)
    (case aIC => k_is)
    (case lIC => k_is)
    (case vIC => rfl)
    (case spIC => first | k_is | kernel_rfl)
    (case l_IC => k_is)
    (case c_IC => k_is)
    (case k_IC => k_is)
    (case aCM => k_is)
    (case lCM => k_is)
    (case vCM => rfl)
    (case spCM => first | k_is | kernel_rfl)
    (case l_CM => k_is)
    (case c_CM => k_is)
    (case k_CM => k_is)
    (case tIC => first | k_is | kernel_rfl)
    (case fnCM => first | k_is | kernel_rfl)
    (case rdC => first | k_is | kernel_rfl)
    (case gaC => first | k_is | kernel_rfl)
    (case fcC => first | k_is | kernel_rfl)
    (case n_is_int => k_is)
    (case l_is_int => k_is)
    (case c_is_int => k_is)
    (case k_is_int => k_is)
    (case n_is_width => k_is)
    (case l_is_width => k_is)
    (case c_is_width => k_is)
    (case k_is_width => k_is)
    (case n_full_word => k_is)
    (case l_full_word => k_is)
    (case c_full_word => k_is)
    (case k_full_word => k_is)
    (case n_is_word => k_is)
    (case l_is_word => k_is)
    (case c_is_word => k_is)
    (case k_is_word => k_is)
    (case n_shifted => k_is)
    (case l_shifted => k_is)
    (case c_shifted => k_is)
    (case k_shifted => k_is)
    (case n_check_word => k_is)
    (case l_check_word => k_is)
    (case c_check_word => k_is)
    (case k_check_word => k_is)
    (case n_check_shift => k_is)
    (case l_check_shift => k_is)
    (case c_check_shift => k_is)
    (case k_check_shift => k_is)
    (case n__law_pen => k_is)
    (case l__law_pen => k_is)
    (case c__law_pen => k_is)
    (case k__law_pen => k_is)
    (case n__law_draw => k_is)
    (case l__law_draw => k_is)
    (case c__law_draw => k_is)
    (case k__law_draw => k_is)
    (case n__law_word => k_is)
    (case l__law_word => k_is)
    (case c__law_word => k_is)
    (case k__law_word => k_is)
    (case n__law_top => k_is)
    (case l__law_top => k_is)
    (case c__law_top => k_is)
    (case k__law_top => k_is)
    (case n__law_moved => k_is)
    (case l__law_moved => k_is)
    (case c__law_moved => k_is)
    (case k__law_moved => k_is)
    (case n__law_done => k_is)
    (case l__law_done => k_is)
    (case c__law_done => k_is)
    (case k__law_done => k_is)
    (case n__law_begun => k_is)
    (case l__law_begun => k_is)
    (case c__law_begun => k_is)
    (case k__law_begun => k_is)
    (case n__law_step => k_is)
    (case l__law_step => k_is)
    (case c__law_step => k_is)
    (case k__law_step => k_is)
    (case n__law_normal => k_is)
    (case l__law_normal => k_is)
    (case c__law_normal => k_is)
    (case k__law_normal => k_is)
    (case n__law_right => k_is)
    (case l__law_right => k_is)
    (case c__law_right => k_is)
    (case k__law_right => k_is)
    (case n_law => k_is)
    (case l_law => k_is)
    (case c_law => k_is)
    (case k_law => k_is)
#print axioms PySem.Challenge.cw_keptbits_k02_blends_by_operations_holds
