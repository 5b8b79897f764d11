import PyProof.Rows.All
import Wide.All
import OpenK.AllK
import Wide.FinOn
import HandS.ForMost
import HandS.ForExc
import HandS.MakeKw
import HandS.FStr
import HandS.Conv
import HandS.ClsMeth
import KE.KCallOwn
import HandS.IsInst
import PyProof.InstEq
import HandS.Lambda
import HandS.ExcInit
import HandS.ExcIs
import HandS.ExcField
import KE.KExcIs
import KE.KExcSuper
import KE.KExcMake
import HandS.EndTab
import HandS.EndOwn
import HandS.NestedK
import PyProof.P3In
import PyProof.FactsAll.dict_1
import KE.KOpsOwn
import HandS.SlotsOwn
import HandS.Defaults
import HandS.Walk
import HandS.Text
import HandS.TupAny
import PySem.Challenge.RW_keptbits_k26_neutral_letters
set_option Elab.async false
set_option linter.all false
set_option maxRecDepth 100000
set_option maxHeartbeats 4000000
/-! KG: defs that are promised something where nothing is being shown (no repr under way), so that repr of data is an exact text. -/
namespace KG
open PySem PySem.Spec PyProof.Rows L2

/-- the promise of a def, for callers around which nothing is being shown -/
structure Gd (P : Program) (w : World) (K : PySem.W.Frag) (mg : Str → Option Value) (base : Heap) (CX : CXT) (k : Nat) (f : Addr) (fd : FuncData) (ps : List Str) (sp : Sp) : Prop where
  len : ∀ vs H Q E, sp vs H Q E → vs.length = ps.length
  go : ∀ (A : Around) (outer : List Env) (s : Shared) (H : Hp) (args : Args) (us : List Value) (vs : List V) (Q : VK) (E : XK),
    Room k A → A.guards = some [] → Env0 P w K mg base A outer s H → BindsTo s fd args (ps.zip us) → Vals vs us → sp vs H Q E →
    codeAny (model P w) A (.call (.ref f) args) (CR CX outer P w H s Q E) s

section
variable {P : Program} {w : World} {K : PySem.W.Frag} {mg : Str → Option Value} {base : Heap} {CX : CXT} {k j : Nat} {f : Addr} {fd : FuncData} {ps : List Str} {sp sp' : Sp}
theorem Gd.mono (F : Gd P w K mg base CX j f fd ps sp) (h : j ≤ k) : Gd P w K mg base CX k f fd ps sp :=
  ⟨F.len, fun A o s H a us vs Q E rm => F.go A o s H a us vs Q E (rm.mono h)⟩
theorem Gd.imp (F : Gd P w K mg base CX k f fd ps sp) (h : ∀ vs H Q E, sp' vs H Q E → sp vs H Q E) : Gd P w K mg base CX k f fd ps sp' :=
  ⟨fun vs H Q E q => F.len vs H Q E (h _ _ _ _ q), fun A o s H a us vs Q E rm gd e0 bt rv q => F.go A o s H a us vs Q E rm gd e0 bt rv (h _ _ _ _ q)⟩
theorem Gd.of_ok (F : FnOk P w K mg base CX k f fd ps sp) : Gd P w K mg base CX k f fd ps sp :=
  ⟨F.len, fun A o s H a us vs Q E rm _ e0 bt rv q => F.run A o s H a us vs Q E rm e0 bt rv q⟩

/-- a def by its body -/
theorem gd_of {name qual : Str} {params : Arguments} {body : List Stmt} {scope : Scope} {dV kV doc pm cdv ct oc : Value} {an od : Option Addr}
    {osl : Array (Option Value)} {N : List Str}
    (found : K.lookup f = some ⟨oc, od, .func (PySem.W.fnOf name qual params body scope dV kV doc pm an cdv ct), osl⟩)
    (code : PySem.W.codeIn K cdv qual = true) (sc : FnScope N ps scope) (len : ∀ vs H Q E, sp vs H Q E → vs.length = ps.length)
    (inner : ∀ (A : Around) (outer : List Env) (s : Shared) (H : Hp) (vs : List V) (Q : VK) (E : XK),
      Room k (A.deeper (envOfC qual scope s.heap.objs.size f cdv)) → (A.deeper (envOfC qual scope s.heap.objs.size f cdv)).guards = some [] → sp vs H Q E →
      ∃ t, PSs (cxOf CX P w K mg base N qual scope f cdv A outer s H E) body t ∧ t { nx := fun _ H' => Q .non H', rt := Q } (start N vs) H) :
    Gd P w K mg base CX (k + 1) f (PySem.W.fnOf name qual params body scope dV kV doc pm an cdv ct) ps sp := by
  refine ⟨len, fun A outer s H args us vs Q E rm gd e0 bt rv q0 => ?_⟩
  have llen := len _ _ _ _ q0
  have kin : K.In s.heap := e0.mod.kin.keeps fun b o e => (e0.bs b o e).1
  have nolim : s.heap.NoLimit := e0.mod.nolimit.keeps fun b o e => (e0.bs b o e).1
  have kinds : ∀ y ∈ ps.zip us, scope.names.lookup y.1 = some .local ∨
      (scope.names.lookup y.1 = some .cell ∧ ((cellsFrom (s.heap.objs.size + 1) scope.names []).lookup y.1).isSome = true) := by
    intro ⟨n, v⟩ hy
    rcases sc.par n (List.of_mem_zip hy).1 with z | z
    · exact .inl z
    · exact .inr ⟨z, PySem.W.cellsFrom_some _ _ _ (.inl z)⟩
  refine codeAny_call_function rm.depth (kin _ _ found) rfl sc.co sc.gen rfl (PySem.W.codeRec_of kin code) (bt _ _ _ _ ?_)
  refine wpAny_newFunctionEnv_cells sc.kind kinds fun env he s1 x => ?_
  subst he
  refine ⟨nolim.keeps x.toInCall.keep, codeAny_func ?_⟩
  obtain ⟨t, ht, hq⟩ := inner A outer s H vs Q E (rm.deeper _) gd q0
  have I := inv_start (CX := CX) (E := E) sc rm.hd e0 llen rv x
  refine wpAny_mono (ht.run [] s1 (start N vs) H _ I hq) (fun fl s' hs => ?_) fun e s' hs => hs
  have done : ∀ {σ' : L2.St} {H' : Hp} {v : V} {u : Value}, Inv (cxOf CX P w K mg base N qual scope f cdv A outer s H E) [] σ' H' s' → RelV v u → Q v H' → CE outer P w H s Q u s' :=
    fun {σ' H' v u} J r q => ⟨v, H', J.os, J.bare, J.base, J.hok, r, q⟩
  cases fl with
  | ret u =>
    obtain ⟨v, σ', H', J, r, q⟩ := hs
    exact done J r q
  | next =>
    obtain ⟨σ', H', J, q⟩ := hs
    exact done (v := V.non) (u := Value.none) J rfl q
  | brk => exact hs.elim fun _ h => h.elim fun _ h => False.elim h.2
  | cont => exact hs.elim fun _ h => h.elim fun _ h => False.elim h.2

/-- a def of the text that raises nothing, by its body -/
theorem gd0 {x qual : Str} {st : Stmt} {N : List Str} (F : Fun K x qual st f fd) (sc : FnScope N ps (defScope st)) (len : ∀ vs H Q E, sp vs H Q E → vs.length = ps.length)
    (inner : ∀ (cdv : Value) (A : Around) (outer : List Env) (s : Shared) (H : Hp) (vs : List V) (Q : VK) (E : XK),
      Room k (A.deeper (envOfC qual (defScope st) s.heap.objs.size f cdv)) → (A.deeper (envOfC qual (defScope st) s.heap.objs.size f cdv)).guards = some [] → sp vs H Q E →
      ∃ t, PSs (cxOf CX0 P w K mg base N qual (defScope st) f cdv A outer s H E).nox (defBody st) t ∧ t { nx := fun _ H' => Q .non H', rt := Q } (start N vs) H) :
    Gd P w K mg base CX0 (k + 1) f fd ps sp := by
  obtain ⟨oc, od, kV, doc, pm, an, cdv, ct, osl, rfl, found, code⟩ := F.ex
  exact gd_of found code sc len fun A outer s H vs Q E rm gd q => (inner cdv A outer s H vs Q E rm gd q).elim fun t h => ⟨t, h.1.nox, h.2⟩
/-- a def of the text that may raise, by its body -/
theorem gdX {x qual : Str} {st : Stmt} {N : List Str} (F : Fun K x qual st f fd) (sc : FnScope N ps (defScope st)) (len : ∀ vs H Q E, sp vs H Q E → vs.length = ps.length)
    (inner : ∀ (cdv : Value) (A : Around) (outer : List Env) (s : Shared) (H : Hp) (vs : List V) (Q : VK) (E : XK),
      Room k (A.deeper (envOfC qual (defScope st) s.heap.objs.size f cdv)) → (A.deeper (envOfC qual (defScope st) s.heap.objs.size f cdv)).guards = some [] → sp vs H Q E →
      ∃ t, PSs (cxOf (L2.CX P w) P w K mg base N qual (defScope st) f cdv A outer s H E) (defBody st) t ∧ t { nx := fun _ H' => Q .non H', rt := Q } (start N vs) H) :
    Gd P w K mg base (L2.CX P w) (k + 1) f fd ps sp := by
  obtain ⟨oc, od, kV, doc, pm, an, cdv, ct, osl, rfl, found, code⟩ := F.ex
  exact gd_of found code sc len fun A outer s H vs Q E rm gd q => inner cdv A outer s H vs Q E rm gd q
end

/-! ### calls -/
section
variable {X : Cx} {CX : CXT} {k : Nat} {f C : Addr} {fd : FuncData} {ps ks : List Str} {sp : Sp} {dvs : List V} {ds : List Value} {E : XK} {x m : Str} {p pos apos : Pos} {e o : Expr} {es : List Expr} {kws : List Keyword} {ta te : TE} {t tk : TA}
/-- the callee runs, around it A with the same frames and nothing shown -/
theorem run_at {pins : List (Addr × Obj)} {σ : L2.St} {H : Hp} {s : Shared} {Q : VK} {us ws : List Value} {kw : List (Str × Value)} {vs : List V} {A : Around} {W : Value → Shared → Prop}
    (F : Gd X.prog X.w X.K X.mg X.base CX k f fd ps sp) (rm : Room k A) (gd : A.guards = some []) (e0 : Env0 X.prog X.w X.K X.mg X.base A X.stack s H)
    (pass : ∀ e s', CX X.stack H s E e s' → W e s')
    (I : Inv X pins σ H s) (bt : BindsTo s fd ⟨us, kw⟩ (ps.zip ws)) (r : Vals vs ws) (q : sp vs H Q E) : wpAny (model X.prog X.w) A (call (.ref f) us kw) (EP X pins σ Q) W s := by
  refine wpAny_call (codeAny_mono (F.go A X.stack s H ⟨us, kw⟩ ws vs Q E rm gd e0 bt r q) fun out s' hq => ?_)
  match out, hq with
  | .error e, hq => exact pass e s' hq
  | .ok (.ret u), hq => exact I.after hq
theorem run_g {pins : List (Addr × Obj)} {σ : L2.St} {H : Hp} {s : Shared} {Q : VK} {us ws : List Value} {kw : List (Str × Value)} {vs : List V}
    (F : Gd X.prog X.w X.K X.mg X.base CX k f fd ps sp) (rm : Room k X.A) (gd : X.A.guards = some []) (hx : Passes CX X E)
    (I : Inv X pins σ H s) (bt : BindsTo s fd ⟨us, kw⟩ (ps.zip ws)) (r : Vals vs ws) (q : sp vs H Q E) : wpAny (model X.prog X.w) X.A (call (.ref f) us kw) (EP X pins σ Q) X.xe s :=
  run_at F rm gd I.env0 (fun e s' hq => hx pins σ H s e s' I hq) I bt r q
theorem bind_pos {s : Shared} {us : List Value} {vs : List V} {H : Hp} {Q : VK} (F : Gd X.prog X.w X.K X.mg X.base CX k f fd ps sp) (hb : Binds X.K fd ps ds) (hd : Vals dvs ds) (KX : X.K.In s.heap) (r : Vals vs us) (q : sp (vs ++ dvs) H Q E) :
    BindsTo s fd ⟨us, []⟩ (ps.zip (us ++ ds)) := hb s us KX (by rw [← (r.append hd).length]; exact F.len _ _ _ _ q)

/-- f(e, ..) -/
theorem pe_gcall (F : Gd X.prog X.w X.K X.mg X.base CX k f fd ps sp) (rm : Room k X.A) (gd : X.A.guards = some []) (gl : Gl X x) (at_ : X.mg x = some (.ref f)) (kp : PySem.W.keepIn X.K (.ref f) = true) (hb : Binds X.K fd ps ds) (hd : Vals dvs ds) (hx : Passes CX X E)
    (ha : PA X (e :: es) t) (hdb : (x == ("__debug__" : Str)) = false := by decide) (he : starEach (e :: es) X.env = (false, eval e X.env) :: starEach es X.env := by rfl) (hpl : (backTo pos (starEach es X.env)).any (·.1) = false := by rfl) :
    PE X (.Call (.Name x p) (e :: es) [] pos) (tCall sp dvs E t) :=
  ⟨fun pins s σ H Q I h => wpAny_Call_Name_kw (ld_glob I gl at_ (PySem.W.callWith_K (h₀ := X.base) I.ok.mod.kin kp
    (thn (ha.run pos pins s σ H _ I h) fun us s1 ⟨vs, H1, J, r, q⟩ => ⟨J.kIn, run_g F rm gd hx J (bind_pos F hb hd J.kIn r q) (r.append hd) q⟩) he hpl) hdb)⟩
/-- f() -/
theorem pe_gcall0 (F : Gd X.prog X.w X.K X.mg X.base CX k f fd ps sp) (rm : Room k X.A) (gd : X.A.guards = some []) (gl : Gl X x) (at_ : X.mg x = some (.ref f)) (kp : PySem.W.keepIn X.K (.ref f) = true) (hb : Binds X.K fd ps ds) (hd : Vals dvs ds) (hx : Passes CX X E)
    (hdb : (x == ("__debug__" : Str)) = false := by decide) : PE X (.Call (.Name x p) [] [] pos) (tCall sp dvs E tNil) :=
  ⟨fun pins s σ H Q I h => wpAny_Call_Name_kw (ld_glob I gl at_ (PySem.W.callWith_K0 I.kIn kp (run_g (us := []) (vs := dvs) F rm gd hx I (bind_pos (vs := []) F hb hd I.kIn .nil h) (Vals.append .nil hd) h)) hdb)⟩
/-- o.m(e, ..) -/
theorem pe_gmeth {pl : Sem Bool} (he : PE X o ta) (c : Cls X.K C) (hm : Meth X.K C m f) (F : Gd X.prog X.w X.K X.mg X.base CX k f fd ps sp) (rm : Room k X.A) (gd : X.A.guards = some []) (hb : Binds X.K fd ps ds) (hd : Vals dvs ds) (hx : Passes CX X E) (ha : PA X (e :: es) t)
    (hst : starEach (e :: es) X.env = (false, eval e X.env) :: starEach es X.env := by rfl) (hpl : (backTo pos (starEach es X.env)).any (·.1) = false := by rfl)
    (ht : eval (.Call (.Attribute o m apos) (e :: es) [] pos) X.env = (do
      let w ← eval o X.env
      standAt apos.atName
      let (g, a) ← holding [w] (getMethod w m pl)
      callWith pos g a (backTo pos (starEach (e :: es) X.env)) (backToKw pos (keywordEach [] X.env))) := by rfl) :
    PE X (.Call (.Attribute o m apos) (e :: es) [] pos) (tMeth C m sp dvs E ta t) := by
  refine ⟨fun pins s σ H Q I h => PySem.W.methodCall_KW (pl := pl) (thn (he.run pins s σ H _ I h) fun u s1 ⟨y, H1, I1, ry, a, dx, fs, ey, ea, l, q⟩ => ?_) ht⟩
  subst ey
  obtain rfl : u = Value.ref a := ry
  refine getmeth_ok I1 ea c hm l (PySem.W.callWith_K (first := [.ref a]) (h₀ := X.base) I.ok.mod.kin hm.kp (thn (ha.run pos pins s1 σ H1 _ I1 q) fun us s2 ⟨vs, H2, J, r, q2⟩ => ⟨J.kIn, ?_⟩) hst hpl)
  have r1 : Vals (V.ref a :: vs) (Value.ref a :: us) := .cons rfl r
  exact run_g F rm gd hx J (bind_pos F hb hd J.kIn r1 q2) (r1.append hd) q2
/-- o.m() -/
theorem pe_gmeth0 {pl : Sem Bool} (he : PE X o ta) (c : Cls X.K C) (hm : Meth X.K C m f) (F : Gd X.prog X.w X.K X.mg X.base CX k f fd ps sp) (rm : Room k X.A) (gd : X.A.guards = some []) (hb : Binds X.K fd ps ds) (hd : Vals dvs ds) (hx : Passes CX X E)
    (ht : eval (.Call (.Attribute o m apos) [] [] pos) X.env = (do
      let w ← eval o X.env
      standAt apos.atName
      let (g, a) ← holding [w] (getMethod w m pl)
      callWith pos g a (backTo pos (starEach [] X.env)) (backToKw pos (keywordEach [] X.env))) := by rfl) :
    PE X (.Call (.Attribute o m apos) [] [] pos) (tMeth C m sp dvs E ta tNil) := by
  refine ⟨fun pins s σ H Q I h => PySem.W.methodCall_KW (pl := pl) (thn (he.run pins s σ H _ I h) fun u s1 ⟨y, H1, J, ry, a, dx, fs, ey, ea, l, q⟩ => ?_) ht⟩
  subst ey
  obtain rfl : u = Value.ref a := ry
  have r1 : Vals [V.ref a] [Value.ref a] := .cons rfl .nil
  exact getmeth_ok J ea c hm l (PySem.W.callWith_K0 (first := [.ref a]) J.kIn hm.kp (run_g (us := [.ref a]) F rm gd hx J (bind_pos (vs := [.ref a]) F hb hd J.kIn r1 q) (r1.append hd) q))

/-- some of a list, by places -/
def sel {α : Type} (is : List Nat) (l : List α) : List α := is.filterMap fun i => l[i]?
theorem sel_vals : ∀ (is : List Nat) {vs : List V} {us : List Value}, Vals vs us → Vals (sel is vs) (sel is us)
  | [], _, _, _ => .nil
  | i :: is, vs, us, r => by
    have ih := sel_vals is r
    unfold sel at ih ⊢
    rw [List.filterMap_cons, List.filterMap_cons]
    cases h : vs[i]? with
    | none => rw [r.none_of h]; exact ih
    | some v =>
      obtain ⟨u, e, rv⟩ := r.get h
      rw [e]
      exact .cons rv ih
/-- keywords behind n values: the keywords' values in the order of is -/
theorem kbn_of {K : PySem.W.Frag} {qual : Str} {st : Stmt} (F : Fun K x qual st f fd) (n : Nat) (ks : List Str) (is : List Nat)
    (h : ∀ (kV doc pm : Value) (an : Option Addr) (cdv ct : Value) (us ws : List Value), us.length = n → ws.length = ks.length →
      bindArgs (PySem.W.fnOf x qual (defArgs st) (defBody st) (defScope st) .none kV doc pm an cdv ct) ⟨us, ks.zip ws⟩ = pure (ps.zip (us ++ sel is ws))) :
    KBn K fd ps n ks (fun us ws => us ++ sel is ws) (fun vs zs => vs ++ sel is zs) := by
  obtain ⟨oc, od, kV, doc, pm, an, cdv, ct, osl, rfl, _, _⟩ := F.ex
  exact ⟨fun s us ws _ l1 l2 => .of_eq (h kV doc pm an cdv ct us ws l1 l2), fun r rz => r.append (sel_vals is rz)⟩
variable {n : Nat} {g : List Value → List Value → List Value} {gV : List V → List V → List V}
/-- o.m(k = v, ..) -/
def tMethK (C : Addr) (m : Str) (j : Nat) (sp : Sp) (gV : List V → List V → List V) (E : XK) (ta : TE) (tk : TA) : TE := fun σ H Q => ta σ H fun x H1 => ∃ a dx fs, x = .ref a ∧ H1 a = some (.ins C dx fs) ∧ fs.lookup m = none ∧
  tk σ H1 fun zs H2 => zs.length = j ∧ sp (gV [x] zs) H2 Q E
theorem pe_gmethK {pl : Sem Bool} (he : PE X o ta) (c : Cls X.K C) (hm : Meth X.K C m f) (F : Gd X.prog X.w X.K X.mg X.base CX k f fd ps sp) (rm : Room k X.A) (gd : X.A.guards = some []) (hb : KBn X.K fd ps 1 ks g gV) (hx : Passes CX X E) (hkw : PK X kws tk)
    (hall : (backToKw pos (keywordEach kws X.env)).all (·.1.isSome) = true := by rfl) (hks : (backToKw pos (keywordEach kws X.env)).filterMap (·.1) = ks := by rfl)
    (hpl : ((backTo pos (starEach [] X.env)).any (·.1) || (backToKw pos (keywordEach kws X.env)).any (·.1.isNone)) = false := by rfl)
    (ht : eval (.Call (.Attribute o m apos) [] kws pos) X.env = (do
      let w ← eval o X.env
      standAt apos.atName
      let (g, a) ← holding [w] (getMethod w m pl)
      callWith pos g a (backTo pos (starEach [] X.env)) (backToKw pos (keywordEach kws X.env))) := by rfl) :
    PE X (.Call (.Attribute o m apos) [] kws pos) (tMethK C m ks.length sp gV E ta tk) := by
  refine ⟨fun pins s σ H Q I h => PySem.W.methodCall_KW (pl := pl) (thn (he.run pins s σ H _ I h) fun u s1 ⟨y, H1, I1, ry, a, dx, fs, ey, ea, l, q⟩ => ?_) ht⟩
  subst ey
  obtain rfl : u = Value.ref a := ry
  refine getmeth_ok I1 ea c hm l (PySem.W.callWith_KW0 (first := [.ref a]) (h₀ := X.base) I.ok.mod.kin hm.kp hall (thn (hkw.run pos pins s1 σ H1 _ I1 q) fun ws s2 ⟨zs, H2, J, rz, lz, q2⟩ => ⟨J.kIn, ?_⟩) hpl)
  rw [hks]
  have r1 : Vals [V.ref a] [Value.ref a] := .cons rfl .nil
  exact run_g (us := [.ref a]) F rm gd hx J (hb.to s2 [.ref a] ws J.kIn rfl (rz.length.symm.trans lz)) (hb.rel r1 rz) q2

/-! ### new instances -/
theorem und_make {A : Around} {us : List Value} {kw : List (Str × Value)} : (A.under (.builtin "type.__call__" ⟨.ref C :: us, kw⟩)).guards = A.guards := by
  first | rfl | simp [Around.under, Code.guards, Code.isGuard, guardIds, pushGuards]
theorem run_gmake {pins : List (Addr × Obj)} {σ : L2.St} {H : Hp} {s : Shared} {Q : VK} {us : List Value} {kw : List (Str × Value)} (gW : Value → List Value) (gZ : V → List V) (M : Mk X.K C f) (F : Gd X.prog X.w X.K X.mg X.base CX k f fd ps sp) (rm : Room (k + 1) X.A) (gd : X.A.guards = some [])
    (hb : ∀ (s : Shared) (y : Addr), X.K.In s.heap → BindsTo s fd ⟨.ref y :: us, kw⟩ (ps.zip (gW (.ref y)))) (hv : ∀ y : Addr, Vals (gZ (.ref y)) (gW (.ref y)))
    (hx : Passes CX X E) (I : Inv X pins σ H s)
    (h : ∀ y dy, H y = none → H dy = none → dy ≠ y → sp (gZ (.ref y)) (upd (upd H dy (.own y)) y (.ins C dy [])) (fun v H2 => v = .non ∧ Q (.ref y) H2) E) :
    wpAny (model X.prog X.w) X.A (call (.ref C) us kw) (EP X pins σ Q) X.xe s := by
  have hq := h (s.heap.objs.size + 1) s.heap.objs.size (I.hok.fresh (Nat.le_succ _)) (I.hok.fresh (Nat.le_refl _)) (Nat.ne_of_lt (Nat.lt_succ_self _))
  have J := Inv.made (C := C) I
  refine wpAny_call (make_map (f := f) I.kIn M.makes M.init (beq_iff_eq.mp M.fn) (codeAny_mono (F.go _ X.stack _ _ ⟨Value.ref (s.heap.objs.size + 1) :: us, kw⟩ _ _ _ E (rm.make C us kw)
    (und_make.trans gd) (J.env0.make C us kw) (hb _ (s.heap.objs.size + 1) J.kIn) (hv _) hq) fun out s' hq' => ?_))
  match out, hq' with
  | .error e, hq' => exact hx pins σ _ _ e s' J hq'
  | .ok (.ret u), hq' =>
    obtain ⟨v, H', I3, rv, ev, q3⟩ := J.after hq'
    subst ev
    exact ⟨rv, ⟨V.ref (s.heap.objs.size + 1), H', I3, rfl, q3⟩⟩
/-- C(e, ..) -/
theorem pe_gmake (M : Mk X.K C f) (F : Gd X.prog X.w X.K X.mg X.base CX k f fd ps sp) (rm : Room (k + 1) X.A) (gd : X.A.guards = some []) (gl : Gl X x) (at_ : X.mg x = some (.ref C)) (hb : Binds X.K fd ps ds) (hd : Vals dvs ds) (hx : Passes CX X E)
    (ha : PA X (e :: es) t) (hdb : (x == ("__debug__" : Str)) = false := by decide) (he : starEach (e :: es) X.env = (false, eval e X.env) :: starEach es X.env := by rfl) (hpl : (backTo pos (starEach es X.env)).any (·.1) = false := by rfl) :
    PE X (.Call (.Name x p) (e :: es) [] pos) (tMake C sp dvs E t) := by
  refine ⟨fun pins s σ H Q I h => wpAny_Call_Name_kw (ld_glob I gl at_ (PySem.W.callWith_K (h₀ := X.base) I.ok.mod.kin M.kp (thn (ha.run pos pins s σ H _ I h) fun us s1 ⟨vs, H1, J, r, q⟩ => ⟨J.kIn, ?_⟩) he hpl) hdb)⟩
  have rr : ∀ y : Addr, Vals (V.ref y :: vs ++ dvs) (Value.ref y :: us ++ ds) := fun y => .cons rfl (r.append hd)
  have hl : ∀ y : Addr, (Value.ref y :: us ++ ds).length = ps.length := fun y => by
    have e := (rr y).length
    have q1 := q (s1.heap.objs.size + 1) s1.heap.objs.size (J.hok.fresh (Nat.le_succ _)) (J.hok.fresh (Nat.le_refl _)) (Nat.ne_of_lt (Nat.lt_succ_self _))
    have e1 := F.len _ _ _ _ q1
    rw [← e, ← e1]
    simp
  exact run_gmake (fun y => y :: us ++ ds) (fun y => y :: vs ++ dvs) M F rm gd (fun s y KX => hb s (.ref y :: us) KX (hl y)) rr hx J q
/-- C(k = v, ..) -/
def tMakeKG (C : Addr) (j : Nat) (sp : Sp) (gV : List V → List V → List V) (E : XK) (tk : TA) : TE := fun σ H Q => tk σ H fun zs H2 => zs.length = j ∧
  ∀ x dx, H2 x = none → H2 dx = none → dx ≠ x → sp (gV [.ref x] zs) (upd (upd H2 dx (.own x)) x (.ins C dx [])) (fun v H3 => v = .non ∧ Q (.ref x) H3) E
theorem pe_gmakeK (M : Mk X.K C f) (F : Gd X.prog X.w X.K X.mg X.base CX k f fd ps sp) (rm : Room (k + 1) X.A) (gd : X.A.guards = some []) (gl : Gl X x) (at_ : X.mg x = some (.ref C)) (hb : KBn X.K fd ps 1 ks g gV) (hx : Passes CX X E)
    (hkw : PK X kws tk) (hall : (backToKw pos (keywordEach kws X.env)).all (·.1.isSome) = true := by rfl) (hks : (backToKw pos (keywordEach kws X.env)).filterMap (·.1) = ks := by rfl)
    (hdb : (x == ("__debug__" : Str)) = false := by decide)
    (hpl : ((backTo pos (starEach [] X.env)).any (·.1) || (backToKw pos (keywordEach kws X.env)).any (·.1.isNone)) = false := by rfl) :
    PE X (.Call (.Name x p) [] kws pos) (tMakeKG C ks.length sp gV E tk) := by
  refine ⟨fun pins s σ H Q I h => wpAny_Call_Name_kw (ld_glob I gl at_ (PySem.W.callWith_KW0 (first := []) (h₀ := X.base) I.ok.mod.kin M.kp hall (thn (hkw.run pos pins s σ H _ I h) fun ws s2 ⟨zs, H2, J, rz, lz, q2⟩ => ⟨J.kIn, ?_⟩) hpl) hdb)⟩
  rw [hks]
  exact run_gmake (us := []) (fun y => g [y] ws) (fun y => gV [y] zs) M F rm gd (fun s y KX => hb.to s [.ref y] ws KX rfl (rz.length.symm.trans lz)) (fun y => hb.rel (.cons rfl .nil) rz) hx J q2
end
end KG

set_option Elab.async false
set_option linter.all false
set_option maxRecDepth 100000
set_option maxHeartbeats 4000000
/-! KR: the end of a law over such promises; repr of data, str of an own object, == and != by an own __eq__. -/
namespace KG
open PySem PySem.Spec PyProof.Rows L2

/-! ### the end: the law's def is called where nothing is shown -/
theorem law_gd {P : Program} {w : World} {K : PySem.W.Frag} {mg mb : Str → Option Value} {CX : CXT} {k : Nat} {fa a : Addr} {fd : FuncData} {x : Str} {sp : Sp} {s1 : Shared} {vs : List Value} {ns : List Int}
    (kin : K.In s1.heap) (nsm : s1.heap.Ns mainGlobals mg) (nsb : s1.heap.Ns builtinsNs mb) (mbb : ∀ x : Str, x ≠ "__name__" → mb x = bootBuiltins x) (lim : s1.heap.NoLimit) (nog : s1.gens = #[])
    (atA : s1.heap.get? a = some { cls := .type "list", data := .seq vs.toArray }) (isn : IntsAre vs ns) (small : ns.length ≤ sizeLine) (rm : Room k callerA)
    (F : ∀ base : Heap, K.In base → base.Ns mainGlobals mg → Gd P w K mg base CX k fa fd [x] sp) (bt : ∀ (s : Shared) (u : Value), BindsTo s fd ⟨[u], []⟩ [(x, u)])
    (start_ : ∀ H : Hp, Only H → SqL K H a (ns.map V.int) → sp [.ref a] H (fun v _ => v = .bl true) fun _ _ _ => False)
    (quiet : ∀ H e s', CX [] H s1 (fun _ _ _ => False) e s' → False) :
    codeAny (model P w) callerA (.call (.ref fa) ⟨[.ref a], []⟩) (fun r s' => r = .ok (.ret (.bool true)) ∧ OldK s1.heap s'.heap ∧ s'.os = s1.os ∧ AllBare s'.gens) s1 := by
  have rv := vals_ints isn
  have vlen := isn.length
  have from_ : ∀ H : Hp, Only H → SqL K H a (ns.map V.int) → HOk P w H s1.heap → (∀ b, H b ≠ none → b = a) → (H a ≠ none → K.lookup a = none) →
      codeAny (model P w) callerA (.call (.ref fa) ⟨[.ref a], []⟩) (fun r s' => r = .ok (.ret (.bool true)) ∧ OldK s1.heap s'.heap ∧ s'.os = s1.os ∧ AllBare s'.gens) s1 := by
    intro H only sq hok onlyA notK
    have free_of : ∀ {b : Addr} {o : Obj}, (H b ≠ none → b = a → False) → H b = none := fun {b o} h => by
      by_cases z : H b = none
      · exact z
      · exact (h z (onlyA b z)).elim
    have dict_free : ∀ {b : Addr} {o : Obj} {es : Array DictEntry} {ep : Nat}, s1.heap.get? b = some o → o.data = .dict es ep → H b = none := fun {b o es ep} e d =>
      free_of (o := o) fun _ eb => by
        rw [eb, atA] at e
        cases e
        exact nomatch d
    have ns_hid : ∀ {b : Addr} {m : Str → Option Value}, s1.heap.Ns b m → (hidT s1.heap H).Ns b m :=
      fun {b m} ⟨o, es, ep, e, d, r⟩ => ⟨o, es, ep, hidT_get e (dict_free e d), d, r⟩
    have kin_hid : K.In (hidT s1.heap H) := fun b o e => hidT_get (kin b o e) (free_of (o := o) fun z eb => by
      rw [eb] at e z
      rw [notK z] at e
      cases e)
    have mod : Mod K mg (hidT s1.heap H) := ⟨kin_hid, ns_hid nsm, ⟨mb, ns_hid nsb, mbb⟩, lim.elim fun mc h => ⟨mc, ns_hid h.1, h.2⟩⟩
    have e0 : Env0 P w K mg (hidT s1.heap H) callerA [] s1 H := ⟨rfl, mod, fun b o e => of_hidT e, Nat.le_of_eq (hidT_size _ _), trivial, fun b hb => absurd (show b ∈ ([] : List Addr) from hb) List.not_mem_nil, hok, .of_eq nog⟩
    refine codeAny_mono ((F _ kin_hid (ns_hid nsm)).go callerA [] s1 H ⟨[.ref a], []⟩ [.ref a] [.ref a] _ _ rm rfl e0 (bt s1 (.ref a)) (.cons rfl .nil) (start_ H only sq)) fun r s' h => ?_
    match r, h with
    | .error e, h => exact (quiet H e s' h).elim
    | .ok (.ret u), h =>
      obtain ⟨v, H', os, bare, un, hok', r', q⟩ := h
      have q' : v = .bl true := q
      subst q'
      obtain rfl : u = Value.bool true := r'
      refine ⟨rfl, OldK.of_keep fun b o e => ?_, os, bare⟩
      cases z : H b with
      | none => exact un.keep b o e z (by intro y; cases y) (by simp)
      | some t =>
        rcases only b with y | ⟨ob, xs, y⟩
        · rw [z] at y
          cases y
        · have y2 := un.frzs b ob _ y
          obtain ⟨g1, _⟩ := hok b _ y
          obtain ⟨g2, _⟩ := hok' b _ y2
          rw [e] at g1
          cases g1
          exact g2
  cases hk : K.lookup a with
  | some o =>
    have e := kin a o hk
    rw [atA] at e
    cases e
    exact from_ (fun _ => none) (fun _ => .inl rfl) (.inr ⟨_, vs.toArray, _, hk, rfl, rfl, rfl, by rw [List.size_toArray, vlen]; exact small, by simpa using rv⟩) (fun b u z => by cases z) (fun b z => absurd rfl z) fun z => absurd rfl z
  | none =>
    have at_a : ∀ {b : Addr} {u : HO}, (if b = a then some (HO.frz { cls := .type "list", data := .seq vs.toArray } (.lst (ns.map V.int))) else none) = some u → b = a := fun {b u} z => by
      by_cases hb : b = a
      · exact hb
      · rw [if_neg hb] at z
        cases z
    refine from_ (fun b => if b = a then some (.frz { cls := .type "list", data := .seq vs.toArray } (.lst (ns.map V.int))) else none) (fun b => ?_) (.inl (.inr ⟨{ cls := .type "list", data := .seq vs.toArray }, if_pos rfl⟩)) (fun b u z => ?_) (fun b z => ?_) fun _ => hk
    · by_cases hb : b = a
      · exact .inr ⟨_, _, if_pos hb⟩
      · exact .inl (if_neg hb)
    · obtain rfl := at_a z
      have z' := (if_pos rfl).symm.trans z
      cases z'
      exact ⟨atA, by rw [List.length_map]; exact small, vs, _, rv, atA⟩
    · by_cases hb : b = a
      · exact hb
      · exact absurd (if_neg hb) z

/-- the law's walk, from its promise where nothing is shown -/
theorem walk_gd {l : PySem.W.OpenLaw} {n k : Nat} {q : Program} {loose : List Str} {XP : (Str → Option Value) → Heap → Prop} {YP : World → Heap → Prop} {d : DefRec} {K : Params → PySem.W.Frag} {CX : World → CXT} {sp : World → Sp} {x : Str}
    (most : l.most = some n) (n2 : n ≤ sizeLine) (nod : d.params.defaults = []) (rm : Room k callerA)
    (hY : ∀ (w : World) (h : Heap), YP w h → (K w.params).In h)
    (F : ∀ (w : World) (mg : Str → Option Value) (fa : Addr) (h : Heap), (K w.params).In h → h.Ns mainGlobals mg → mg d.name = some (.ref fa) →
      ∃ fd : FuncData, (∀ (s : Shared) (u : Value), BindsTo s fd ⟨[u], []⟩ [(x, u)]) ∧
        ∀ base : Heap, (K w.params).In base → base.Ns mainGlobals mg → Gd l.prog w (K w.params) mg base (CX w) k fa fd [x] (sp w))
    (start_ : ∀ (w : World) (H : Hp) (a : Addr) (ns : List Int), ns.length ≤ n → Only H → SqL (K w.params) H a (ns.map V.int) → sp w [.ref a] H (fun v _ => v = .bl true) fun _ _ _ => False)
    (quiet : ∀ (w : World) (H : Hp) (s : Shared) (e : Value) (s' : Shared), CX w [] H s (fun _ _ _ => False) e s' → False) :
    PySem.W.WalkO q loose XP YP l.row.toRowW d [] (fun f vs => PySem.call f vs) := by
  refine Att.attach_call most nod fun w s0 s1 mg mb fa o pm cd doc a vs ns G Y ho hd hcd hmg hobj hints hlen hg => ?_
  have kin := hY w _ Y
  obtain ⟨fd, hb, hF⟩ := F w mg fa _ kin G.T.g hmg
  exact law_gd kin G.T.g G.T.b G.T.builtins G.T.nolimit hg hobj hints (Nat.le_trans hlen n2) rm hF hb (fun H hO hS => start_ w H a ns hlen hO hS) fun H e s' => quiet w H s1 e s'

/-- .. where the promise hangs on the written part alone -/
theorem walk_gdK {l : PySem.W.OpenLaw} {n k : Nat} {q : Program} {loose : List Str} {XP : (Str → Option Value) → Heap → Prop} {YP : World → Heap → Prop} {d : DefRec} {K : Params → PySem.W.Frag} {CX : CXT} {sp : PySem.W.Frag → Sp} {x : Str}
    (most : l.most = some n) (n2 : n ≤ sizeLine) (nod : d.params.defaults = []) (rm : Room k callerA)
    (hY : ∀ (w : World) (h : Heap), YP w h → (K w.params).In h)
    (F : ∀ (w : World) (mg : Str → Option Value) (fa : Addr) (h : Heap), (K w.params).In h → h.Ns mainGlobals mg → mg d.name = some (.ref fa) →
      ∃ fd : FuncData, (∀ (s : Shared) (u : Value), BindsTo s fd ⟨[u], []⟩ [(x, u)]) ∧
        ∀ base : Heap, (K w.params).In base → base.Ns mainGlobals mg → Gd l.prog w (K w.params) mg base CX k fa fd [x] (sp (K w.params)))
    (start_ : ∀ (K : PySem.W.Frag) (H : Hp) (a : Addr) (ns : List Int), ns.length ≤ n → Only H → SqL K H a (ns.map V.int) → sp K [.ref a] H (fun v _ => v = .bl true) fun _ _ _ => False)
    (quiet : ∀ (H : Hp) (s : Shared) (e : Value) (s' : Shared), CX [] H s (fun _ _ _ => False) e s' → False) :
    PySem.W.WalkO q loose XP YP l.row.toRowW d [] (fun f vs => PySem.call f vs) :=
  walk_gd (K := K) (CX := fun _ => CX) (sp := fun w => sp (K w.params)) most n2 nod rm hY F (fun w H a ns h1 h2 h3 => start_ (K w.params) H a ns h1 h2 h3) fun _ H s e s' => quiet H s e s'

/-! ### repr of data -/
section
variable {X : Cx}
/-- repr(x), x data: none, bools, ints, texts, lists, tuples -/
def rRepr (K : PySem.W.Frag) : List V → Hp → VK → Prop := fun xs H Q => ∃ x d, xs = [x] ∧ Dp K H x d ∧ d.showable = true ∧ d.hasDict = false ∧ d.depth ≤ 40 ∧ d.shown.length ≤ sizeLine ∧ Q (.str d.shown) H
theorem call_repr {k : Nat} (rm : Room k X.A) (gd : X.A.guards = some []) : CallR X (.builtin "repr") (rRepr X.K) := by
  intro pins s σ H xs us Q I r h
  obtain ⟨x, d, rfl, hd, sh, nd, dp, sz, q⟩ := h
  obtain ⟨u, rfl, r1⟩ := vals1 r
  obtain ⟨as, rd⟩ := Dp.reads I d x u hd r1
  have room := rm.units
  have fin : ∀ (s' : Shared) (tk : Tok), Inv X pins σ H s' → EP X pins σ Q (.str d.shown tk) s' := fun s' tk J => ⟨.str d.shown, H, J, ⟨tk, rfl⟩, q⟩
  have intsz : ∀ i : Int, d = .int i → i.natAbs.log2 < 1920 := fun i e => by
    subst e
    simpa [PyData.showable] using sh
  cases hd with
  | non =>
    cases r1
    rw [PyData.shown_none] at q
    exact PySem.P.repr_of_none ⟨.str _, H, I.tok _, ⟨_, rfl⟩, q⟩
  | bl b =>
    cases r1
    rw [PyData.shown_bool] at q
    exact PySem.P.repr_of_bool ⟨.str _, H, I.tok _, ⟨_, rfl⟩, by cases b <;> exact q⟩
  | int i =>
    obtain ⟨t, rfl⟩ := r1
    rw [PyData.shown_int] at q
    exact PySem.P.repr_of_int (intsz i rfl) ⟨.str _, H, I.tok _, ⟨_, rfl⟩, q⟩
  | str z =>
    obtain ⟨t, rfl⟩ := r1
    rw [PyData.shown_str] at q sz
    exact PySem.P.repr_of_str ⟨.str _, H, I.tok _, ⟨_, rfl⟩, q⟩ sz
  | lst _ _ =>
    cases r1
    exact repr_of_reads' rd sh (fun z => by rw [nd] at z; cases z) gd (by omega) (fun _ _ z => z) (fun h' u tk keep => fin _ _ (I.kept (t' := tk) keep)) sz
  | tup _ _ =>
    cases r1
    exact repr_of_reads' rd sh (fun z => by rw [nd] at z; cases z) gd (by omega) (fun _ _ z => z) (fun h' u tk keep => fin _ _ (I.kept (t' := tk) keep)) sz
end

/-! ### str(o), o an own object with its own __str__ -/
section
variable {X : Cx} {CX : CXT} {k : Nat} {f C : Addr} {fd : FuncData} {ps : List Str} {sp : Sp} {E : XK}
theorem in1_gd {A : Around} (h : A.guards = some []) : A.in1.guards = some [] := h
def rStrO (C : Addr) (sp : Sp) (E : XK) : List V → Hp → VK → Prop := fun xs H Q => ∃ a dx fs, xs = [.ref a] ∧ H a = some (.ins C dx fs) ∧ sp [.ref a] H (fun v H' => ∃ z, v = .str z ∧ Q (.str z) H') E
theorem call_strO (F : Gd X.prog X.w X.K X.mg X.base CX k f fd ps sp) (rm : Room (k + 2) X.A) (gd : X.A.guards = some []) (hs : PySem.W.findIn X.K (.ref C) "__str__" = some (some (.ref f))) (hf : PySem.W.isFn X.K (.ref f) = true)
    (hb : Binds X.K fd ps []) (hx : Passes CX X E) : CallR X (.type "str") (rStrO C sp E) := by
  intro pins s σ H xs us Q I r h
  obtain ⟨a, dx, fs, rfl, ea, q⟩ := h
  obtain ⟨u, rfl, r1⟩ := vals1 r
  obtain rfl : u = Value.ref a := r1
  obtain ⟨mA, J, _⟩ := ins_get I.hok ea
  obtain ⟨od, J, _⟩ := J.look
  have room := rm.units
  refine PySem.W.kso_call (by show X.A.units + 1 + 1 < cLine; omega) I.kIn J hs hf ?_
  have r2 : Vals [V.ref a] [Value.ref a] := .cons rfl .nil
  have bt := bind_pos (dvs := []) (vs := [V.ref a]) F hb .nil I.kIn r2 q
  refine wpAny_mono (run_at (us := [.ref a]) F rm.in1.in1 (in1_gd (in1_gd gd)) I.env0.in1.in1 (fun e s' hq => hx pins σ H s e s' I hq) I bt r2 q) (fun v s' hv => ?_) fun _ _ z => z
  obtain ⟨z, H', J', rz, y, ey, q'⟩ := hv
  subst ey
  obtain ⟨t, rfl⟩ := rz
  exact ⟨.str y, H', J', ⟨t, rfl⟩, q'⟩

/-! ### == and != by an own __eq__ -/
theorem ne_bound {M : Model} {A : Around} {W : Value → Shared → Prop} {s : Shared} {K : PySem.W.Frag} {x C : Addr} {ox : Obj} {od : Option Obj} {args : List Value} {Q : Option Value → Shared → Prop} (kin : K.In s.heap) (J : PySem.W.InstAt s.heap x ox C od)
    (hs : PySem.W.findIn K (.ref C) "__ne__" = some (some (.builtin "object.__ne__"))) (h : wpAny M A (call (.builtin "object.__ne__") (.ref x :: args)) (fun v => Q (some v)) W s) :
    wpAny M A (callSpecialIfBound? (.ref x) "__ne__" args) Q W s := by
  simp only [callSpecialIfBound?, bindSpecialIfBound?]
  refine wpAny_holding (wpAny_bind (wpAny_bind (wpAny_bind (J.type.here ((PySem.W.looks_findIn kin hs).here ?_)))))
  refine wpAny_bind (wpAny_askSetting (wpAny_ite ?_))
  have last : wpAny M A (call (.builtin "object.__ne__") ([.ref x] ++ args) >>= fun v => pure (some v)) Q W s :=
    wpAny_bind (wpAny_mono h (fun v s' z => wpAny_pure z) fun _ _ z => z)
  split
  · exact wpAny_bind (wpAny_of_eq (F.cmp_object.ne.bind _) (wpAny_pure (by exact last)))
  · exact wpAny_tryCatch (wpAny_bind (wpAny_of_eq (F.cmp_object.ne.bind _) (wpAny_pure (by exact last))))
theorem ne_own {prog : Program} {w : World} {A : Around} {W : Value → Shared → Prop} {s : Shared} {K : PySem.W.Frag} {x C f : Addr} {ox : Obj} {od : Option Obj} {b tb : Value} {Q : Value → Shared → Prop} (hu : A.units + 1 < cLine) (kin : K.In s.heap) (J : PySem.W.InstAt s.heap x ox C od)
    (hb : PySem.W.Looks (model prog w) s.heap (typeOf b) tb) (hn : PySem.W.notFirst K C tb = true) (hm : PySem.W.mroIn K C (.type "object") = some true)
    (hs : PySem.W.findIn K (.ref C) "__ne__" = some (some (.builtin "object.__ne__"))) (he : PySem.W.findIn K (.ref C) "__eq__" = some (some (.ref f))) (hf : PySem.W.isFn K (.ref f) = true)
    (h : wpAny (model prog w) A.in1 (call (.ref f) [.ref x, b]) (fun v s' => ∃ c, v = .bool c ∧ Q (.bool (!c)) s') W s) : wpAny (model prog w) A (richCompare .NotEq (.ref x) b) Q W s := by
  have one : wpAny (model prog w) A (tryCompare (.ref x) "__ne__" b) (fun r s' => ∃ v, r = some v ∧ Q v s') W s := by
    unfold tryCompare
    refine wpAny_bind (ne_bound kin J hs (wpAny_call (codeAny_call_builtin F.cmp_object.ne.plain F.cmpEntry_ne
      (PySem.W.check_slot F.cmpKind_ne F.cmpSplit_ne (J.type.andThen (PySem.W.looks_mroIn kin hm)) (F.cmpArgs_ne _ _) ?_))))
    show wpAny _ _ (Builtin.«object.__ne__» ⟨[.ref x, b], []⟩) _ _ s
    unfold Builtin.«object.__ne__»
    refine wpAny_bind (m := slotArgs "__ne__" 1 _) (wpAny_pure ?_)
    refine wpAny_bind (wpAny_cRoomFor (by show A.units + 1 < cLine; omega) ?_)
    refine wpAny_bind (m := callSpecialIfBound? (.ref x) (Str.ofString "__eq__") [b]) (PySem.W.ifBound_K kin J he hf (wpAny_mono h (fun v s' hv => ?_) fun _ _ z => z))
    obtain ⟨c, rfl, q⟩ := hv
    refine wpAny_bind (wpAny_truthy_bool ?_)
    exact wpAny_pure (wpAny_pure ⟨_, rfl, q⟩)
  unfold richCompare
  simp only [oneThing_ref]
  refine wpAny_holding (wpAny_bind (wpAny_cRoomFor (by omega) ?_))
  refine wpAny_bind (J.type.here (wpAny_bind (hb.here ?_)))
  split
  · rename_i q
    have e : PySem.W.subIn K tb (.ref C) = some false := by
      rcases Bool.or_eq_true_iff.mp hn with e | e
      · rw [beq_iff_eq.mp e] at q
        simp at q
      · exact beq_iff_eq.mp e
    refine wpAny_bind ((PySem.W.looks_subIn kin e).here ?_)
    simp only [Bool.false_eq_true, if_false]
    refine wpAny_bind (m := tryCompare (.ref x) _ b) (wpAny_mono one (fun r s' z => ?_) fun _ _ e => e)
    obtain ⟨v, rfl, hq⟩ := z
    exact wpAny_pure hq
  · refine wpAny_bind (wpAny_pure ?_)
    simp only [Bool.false_eq_true, if_false]
    refine wpAny_bind (m := tryCompare (.ref x) _ b) (wpAny_mono one (fun r s' z => ?_) fun _ _ e => e)
    obtain ⟨v, rfl, hq⟩ := z
    exact wpAny_pure hq

/-- o == y, o != y: the own __eq__ answers (y: the same class, or a thing whose type is no class below it) -/
def rEqO (K : PySem.W.Frag) (C : Addr) (neg : Bool) (sp : Sp) (E : XK) : R2 := fun x y H Q => ∃ a dx fs t, x = .ref a ∧ H a = some (.ins C dx fs) ∧ TyX K H y t ∧ PySem.W.notFirst K C t = true ∧
  sp [.ref a, y] H (fun v H' => ∃ c, v = .bl c ∧ Q (.bl (if neg then !c else c)) H') E
theorem op_eqO (F : Gd X.prog X.w X.K X.mg X.base CX k f fd ps sp) (rm : Room k X.A) (gd : X.A.guards = some []) (hs : PySem.W.findIn X.K (.ref C) "__eq__" = some (some (.ref f))) (hf : PySem.W.isFn X.K (.ref f) = true)
    (hb : Binds X.K fd ps []) (hx : Passes CX X E) : OpR X (compareOp .Eq) (rEqO X.K C false sp E) := by
  intro pins s σ H x y v u Q I rx ry h
  obtain ⟨a, dx, fs, t, rfl, ea, ty, nf, q⟩ := h
  obtain rfl : v = Value.ref a := rx
  obtain ⟨mA, J, _⟩ := ins_get I.hok ea
  obtain ⟨od, J, _⟩ := J.look
  obtain ⟨m, fr⟩ := I.fr
  obtain ⟨_, Z, pz, _⟩ := kit_of I ry ty
  have r2 : Vals [V.ref a, y] [Value.ref a, u] := .cons rfl (.cons ry .nil)
  have bt := bind_pos (dvs := []) (vs := [V.ref a, y]) F hb .nil I.kIn r2 q
  refine PySem.W.cmp_K (op := .Eq) rm.units0 fr I.ok.mod.kin J (Z.ty _ _ I.kIn pz) nf hs hf ?_
  refine wpAny_mono (run_g (us := [.ref a, u]) F rm gd hx I bt r2 q) (fun v s' hv => ?_) fun _ _ z => z
  obtain ⟨z, H', J', rz, c, ez, q'⟩ := hv
  subst ez
  obtain rfl : v = Value.bool c := rz
  exact ⟨.bl c, H', J', rfl, q'⟩
theorem op_neO (F : Gd X.prog X.w X.K X.mg X.base CX k f fd ps sp) (rm : Room (k + 1) X.A) (gd : X.A.guards = some []) (hs : PySem.W.findIn X.K (.ref C) "__eq__" = some (some (.ref f))) (hf : PySem.W.isFn X.K (.ref f) = true)
    (hn : PySem.W.findIn X.K (.ref C) "__ne__" = some (some (.builtin "object.__ne__"))) (hm : PySem.W.mroIn X.K C (.type "object") = some true)
    (hb : Binds X.K fd ps []) (hx : Passes CX X E) : OpR X (compareOp .NotEq) (rEqO X.K C true sp E) := by
  intro pins s σ H x y v u Q I rx ry h
  obtain ⟨a, dx, fs, t, rfl, ea, ty, nf, q⟩ := h
  obtain rfl : v = Value.ref a := rx
  obtain ⟨mA, J, _⟩ := ins_get I.hok ea
  obtain ⟨od, J, _⟩ := J.look
  obtain ⟨_, Z, pz, _⟩ := kit_of I ry ty
  have r2 : Vals [V.ref a, y] [Value.ref a, u] := .cons rfl (.cons ry .nil)
  have bt := bind_pos (dvs := []) (vs := [V.ref a, y]) F hb .nil I.kIn r2 q
  have room := rm.units
  refine ne_own (by omega) I.kIn J (Z.ty _ _ I.kIn pz) nf hm hn hs hf ?_
  refine wpAny_mono (run_at (us := [.ref a, u]) F rm.in1 (in1_gd gd) I.env0.in1 (fun e s' hq => hx pins σ H s e s' I hq) I bt r2 q) (fun v s' hv => ?_) fun _ _ z => z
  obtain ⟨z, H', J', rz, c, ez, q'⟩ := hv
  subst ez
  obtain rfl : v = Value.bool c := rz
  exact ⟨c, rfl, .bl (!c), H', J', rfl, q'⟩
end
end KG

set_option Elab.async false
set_option linter.all false
set_option maxRecDepth 100000
set_option maxHeartbeats 4000000
/-! KS: defs, methods and classes by name; the readings' steps, one lemma each, for walk_at "go". -/
namespace KG
open PySem PySem.Spec PyProof.Rows L2

/-! ### defs by name -/
/-- how the arguments of a def of the text bind, by place -/
def BindOk (x qual : Str) (st : Stmt) (ps : List Str) : Prop := ∀ (kV doc pm : Value) (an : Option Addr) (cdv ct : Value) (us : List Value), us.length = ps.length →
  bindArgs (PySem.W.fnOf x qual (defArgs st) (defBody st) (defScope st) .none kV doc pm an cdv ct) ⟨us, []⟩ = pure (ps.zip us)
/-- .. n by place, then by keywords, is: the keywords' places -/
def BindOkK (x qual : Str) (st : Stmt) (ps : List Str) (n : Nat) (ks : List Str) (is : List Nat) : Prop := ∀ (kV doc pm : Value) (an : Option Addr) (cdv ct : Value) (us ws : List Value), us.length = n → ws.length = ks.length →
  bindArgs (PySem.W.fnOf x qual (defArgs st) (defBody st) (defScope st) .none kV doc pm an cdv ct) ⟨us, ks.zip ws⟩ = pure (ps.zip (us ++ sel is ws))
/-- the def st stands under the name x -/
structure DefAt (K : PySem.W.Frag) (mg : Str → Option Value) (x : Str) (st : Stmt) (ps : List Str) : Prop where
  ex : ∃ f fd, mg x = some (.ref f) ∧ Fun K x x st f fd ∧ Binds K fd ps []
theorem defAt_of {K : PySem.W.Frag} {h : Heap} {mg : Str → Option Value} (X : K.In h) (G : h.Ns mainGlobals mg) {x : Str} {st : Stmt} {ps : List Str} {f : Addr} {oc kV doc pm cdv ct : Value} {od an : Option Addr} {sl : Array (Option Value)}
    (a : PySem.W.nsIn K mainGlobals x = some (some (.ref f))) (l : K.lookup f = some ⟨oc, od, .func (PySem.W.fnOf x x (defArgs st) (defBody st) (defScope st) .none kV doc pm an cdv ct), sl⟩)
    (c : PySem.W.codeIn K cdv x = true) (k : PySem.W.keepIn K (.ref f) = true) (b : BindOk x x st ps) : DefAt K mg x st ps :=
  have F := fun_mk (st := st) l c k
  ⟨⟨f, _, PySem.W.mg_of X G a, F, F.binds b⟩⟩
/-- the method st of the class at C -/
structure MetAt (K : PySem.W.Frag) (C : Addr) (m qual : Str) (st : Stmt) (ps : List Str) (f : Addr) : Prop where
  ex : ∃ fd, Meth K C m f ∧ Fun K m qual st f fd ∧ Binds K fd ps []
theorem metAt_of {K : PySem.W.Frag} {C : Addr} {m qual : Str} {st : Stmt} {ps : List Str} {f : Addr} {oc kV doc pm cdv ct : Value} {od an : Option Addr} {sl : Array (Option Value)}
    (a : PySem.W.findIn K (.ref C) m = some (some (.ref f))) (i : PySem.W.isFn K (.ref f) = true) (l : K.lookup f = some ⟨oc, od, .func (PySem.W.fnOf m qual (defArgs st) (defBody st) (defScope st) .none kV doc pm an cdv ct), sl⟩)
    (c : PySem.W.codeIn K cdv qual = true) (k : PySem.W.keepIn K (.ref f) = true) (b : BindOk m qual st ps) : MetAt K C m qual st ps f :=
  have F := fun_mk (st := st) l c k
  ⟨⟨_, ⟨a, i, k⟩, F, F.binds b⟩⟩
/-- the def st, promised sp, nothing raised -/
def Cal (P : Program) (w : World) (K : PySem.W.Frag) (mg : Str → Option Value) (base : Heap) (j : Nat) (x : Str) (sp : Sp) : Prop :=
  ∃ f fd ps, mg x = some (.ref f) ∧ PySem.W.keepIn K (.ref f) = true ∧ Binds K fd ps [] ∧ Gd P w K mg base CX0 j f fd ps sp
def Met (P : Program) (w : World) (K : PySem.W.Frag) (mg : Str → Option Value) (base : Heap) (j : Nat) (C : Addr) (m : Str) (f : Addr) (sp : Sp) : Prop :=
  ∃ fd ps, Meth K C m f ∧ Binds K fd ps [] ∧ Gd P w K mg base CX0 j f fd ps sp
def MetK (P : Program) (w : World) (K : PySem.W.Frag) (mg : Str → Option Value) (base : Heap) (j : Nat) (C : Addr) (m : Str) (f : Addr) (ks : List Str) (is : List Nat) (sp : Sp) : Prop :=
  ∃ fd ps, Meth K C m f ∧ KBn K fd ps 1 ks (fun us ws => us ++ sel is ws) (fun vs zs => vs ++ sel is zs) ∧ Gd P w K mg base CX0 j f fd ps sp
section
variable {P : Program} {w : World} {K : PySem.W.Frag} {mg : Str → Option Value} {base : Heap} {k : Nat} {x m qual : Str} {st : Stmt} {ps N : List Str} {sp : Sp} {C f : Addr}
/-- a def by its body -/
theorem DefAt.cal (D : DefAt K mg x st ps) (sc : FnScope N ps (defScope st)) (len : ∀ vs H Q E, sp vs H Q E → vs.length = ps.length)
    (inner : ∀ (f : Addr) (cdv : Value) (A : Around) (outer : List Env) (s : Shared) (H : Hp) (vs : List V) (Q : VK) (E : XK),
      Room k (A.deeper (envOfC x (defScope st) s.heap.objs.size f cdv)) → (A.deeper (envOfC x (defScope st) s.heap.objs.size f cdv)).guards = some [] → sp vs H Q E →
      ∃ t, PSs (cxOf CX0 P w K mg base N x (defScope st) f cdv A outer s H E).nox (defBody st) t ∧ t { nx := fun _ H' => Q .non H', rt := Q } (start N vs) H) :
    Cal P w K mg base (k + 1) x sp := by
  obtain ⟨f, fd, a, F, b⟩ := D.ex
  exact ⟨f, fd, ps, a, F.kp, b, gd0 F sc len (inner f)⟩
theorem MetAt.gd (D : MetAt K C m qual st ps f) (sc : FnScope N ps (defScope st)) (len : ∀ vs H Q E, sp vs H Q E → vs.length = ps.length)
    (inner : ∀ (cdv : Value) (A : Around) (outer : List Env) (s : Shared) (H : Hp) (vs : List V) (Q : VK) (E : XK),
      Room k (A.deeper (envOfC qual (defScope st) s.heap.objs.size f cdv)) → (A.deeper (envOfC qual (defScope st) s.heap.objs.size f cdv)).guards = some [] → sp vs H Q E →
      ∃ t, PSs (cxOf CX0 P w K mg base N qual (defScope st) f cdv A outer s H E).nox (defBody st) t ∧ t { nx := fun _ H' => Q .non H', rt := Q } (start N vs) H) :
    ∃ fd, Meth K C m f ∧ Fun K m qual st f fd ∧ Binds K fd ps [] ∧ Gd P w K mg base CX0 (k + 1) f fd ps sp := by
  obtain ⟨fd, a, F, b⟩ := D.ex
  exact ⟨fd, a, F, b, gd0 F sc len inner⟩
end
section
variable {X : Cx} {j k : Nat} {x m qual : Str} {sp : Sp} {C f : Addr} {p pos apos : Pos} {e o : Expr} {es : List Expr} {kws : List Keyword} {ta te : TE} {t tk : TA} {ks : List Str} {is : List Nat} {pl : Sem Bool}
theorem pc (c : Cal X.prog X.w X.K X.mg X.base j x sp) (rm : Room k X.A) (hk : j ≤ k) (gd : X.A.guards = some []) (gl : Gl X x) (ha : PA X (e :: es) t)
    (hdb : (x == ("__debug__" : Str)) = false := by decide) (he : starEach (e :: es) X.env = (false, eval e X.env) :: starEach es X.env := by rfl) (hpl : (backTo pos (starEach es X.env)).any (·.1) = false := by rfl) :
    PE X (.Call (.Name x p) (e :: es) [] pos) (tCall sp [] E0 t) := by
  obtain ⟨f, fd, ps, a, kp, b, F⟩ := c
  exact pe_gcall F (rm.mono hk) gd gl a kp b .nil pass0 ha hdb he hpl
theorem pc0 (c : Cal X.prog X.w X.K X.mg X.base j x sp) (rm : Room k X.A) (hk : j ≤ k) (gd : X.A.guards = some []) (gl : Gl X x)
    (hdb : (x == ("__debug__" : Str)) = false := by decide) : PE X (.Call (.Name x p) [] [] pos) (tCall sp [] E0 tNil) := by
  obtain ⟨f, fd, ps, a, kp, b, F⟩ := c
  exact pe_gcall0 F (rm.mono hk) gd gl a kp b .nil pass0 hdb
theorem pm (c : Met X.prog X.w X.K X.mg X.base j C m f sp) (cl : Cls X.K C) (rm : Room k X.A) (hk : j ≤ k) (gd : X.A.guards = some []) (he : PE X o ta) (ha : PA X (e :: es) t)
    (hst : starEach (e :: es) X.env = (false, eval e X.env) :: starEach es X.env := by rfl) (hpl : (backTo pos (starEach es X.env)).any (·.1) = false := by rfl)
    (ht : eval (.Call (.Attribute o m apos) (e :: es) [] pos) X.env = (do
      let w ← eval o X.env
      standAt apos.atName
      let (g, a) ← holding [w] (getMethod w m pl)
      callWith pos g a (backTo pos (starEach (e :: es) X.env)) (backToKw pos (keywordEach [] X.env))) := by rfl) :
    PE X (.Call (.Attribute o m apos) (e :: es) [] pos) (tMeth C m sp [] E0 ta t) := by
  obtain ⟨fd, ps, hm, b, F⟩ := c
  exact pe_gmeth he cl hm F (rm.mono hk) gd b .nil pass0 ha hst hpl ht
theorem pm0 (c : Met X.prog X.w X.K X.mg X.base j C m f sp) (cl : Cls X.K C) (rm : Room k X.A) (hk : j ≤ k) (gd : X.A.guards = some []) (he : PE X o ta)
    (ht : eval (.Call (.Attribute o m apos) [] [] pos) X.env = (do
      let w ← eval o X.env
      standAt apos.atName
      let (g, a) ← holding [w] (getMethod w m pl)
      callWith pos g a (backTo pos (starEach [] X.env)) (backToKw pos (keywordEach [] X.env))) := by rfl) :
    PE X (.Call (.Attribute o m apos) [] [] pos) (tMeth C m sp [] E0 ta tNil) := by
  obtain ⟨fd, ps, hm, b, F⟩ := c
  exact pe_gmeth0 he cl hm F (rm.mono hk) gd b .nil pass0 ht
theorem pmK (c : MetK X.prog X.w X.K X.mg X.base j C m f ks is sp) (cl : Cls X.K C) (rm : Room k X.A) (hk : j ≤ k) (gd : X.A.guards = some []) (he : PE X o ta) (hkw : PK X kws tk)
    (hall : (backToKw pos (keywordEach kws X.env)).all (·.1.isSome) = true := by rfl) (hks : (backToKw pos (keywordEach kws X.env)).filterMap (·.1) = ks := by rfl)
    (hpl : ((backTo pos (starEach [] X.env)).any (·.1) || (backToKw pos (keywordEach kws X.env)).any (·.1.isNone)) = false := by rfl)
    (ht : eval (.Call (.Attribute o m apos) [] kws pos) X.env = (do
      let w ← eval o X.env
      standAt apos.atName
      let (g, a) ← holding [w] (getMethod w m pl)
      callWith pos g a (backTo pos (starEach [] X.env)) (backToKw pos (keywordEach kws X.env))) := by rfl) :
    PE X (.Call (.Attribute o m apos) [] kws pos) (tMethK C m ks.length sp (fun vs zs => vs ++ sel is zs) E0 ta tk) := by
  obtain ⟨fd, ps, hm, b, F⟩ := c
  exact pe_gmethK he cl hm F (rm.mono hk) gd b pass0 hkw hall hks hpl ht
end

/-! ### ways that meet behind a statement -/
def tMid (t u : TS) : TS := fun D σ H => ∃ M : L2.St → Hp → Prop, t { D with nx := M } σ H ∧ ∀ σ' H', M σ' H' → u D σ' H'
theorem pss_mid {X : Cx} {st : Stmt} {rest : List Stmt} {t u : TS} (h1 : PS X st t) (h2 : PSs X rest u) : PSs X (st :: rest) (tMid t u) := by
  refine ⟨fun pins s σ H D I h => ?_⟩
  obtain ⟨M, a, b⟩ := h
  refine wpAny_execs_cons (thn (h1.run pins s σ H { D with nx := M } I a) fun f s1 q => ?_)
  match f, q with
  | .next, ⟨σ', H', J, q⟩ => exact h2.run pins s1 σ' H' D J (b σ' H' q)
  | .ret v, q => exact q
  | .brk, q => exact q
  | .cont, q => exact q

/-! ### steps -/
/-- what a field's read, a field's store asks -/
def Fld (K : PySem.W.Frag) (f : Str) (x : V) (H : Hp) (Q : VK) : Prop := ∃ a C dx fs v, x = .ref a ∧ H a = some (.ins C dx fs) ∧ Cls K C ∧ NoAttr K C f ∧ fs.lookup f = some v ∧ Q v H
theorem fld {K : PySem.W.Frag} {f : Str} {a C dx : Addr} {fs : List (Str × V)} {v : V} {H : Hp} {Q : VK} (h : H a = some (.ins C dx fs)) (c : Cls K C) (n : NoAttr K C f) (l : fs.lookup f = some v) (q : Q v H) : Fld K f (.ref a) H Q := ⟨a, C, dx, fs, v, rfl, h, c, n, l, q⟩
def SFld (K : PySem.W.Frag) (f : Str) (y x : V) (H : Hp) (QH : Hp → Prop) : Prop := ∃ a C dx fs, x = .ref a ∧ H a = some (.ins C dx fs) ∧ Cls K C ∧ NoAttr K C f ∧ fs.length < 1000 ∧ QH (upd H a (.ins C dx (putF f y fs)))
/-- .. the heap behind it a letter -/
theorem sfld {K : PySem.W.Frag} {f : Str} {a C dx : Addr} {fs gs : List (Str × V)} {y : V} {H : Hp} {QH : Hp → Prop} (h : H a = some (.ins C dx fs)) (c : Cls K C) (n : NoAttr K C f) (l : fs.length < 1000) (e : putF f y fs = gs)
    (q : ∀ H' : Hp, H' a = some (.ins C dx gs) → (∀ b, b ≠ a → H' b = H b) → QH H') : SFld K f y (.ref a) H QH := ⟨a, C, dx, fs, rfl, h, c, n, l, q _ (by rw [← e]; exact upd_same) fun b nb => upd_ne nb⟩
/-- what the making of an instance asks -/
def Make (C : Addr) (sp : Sp) (args : V → List V) (E : XK) (H : Hp) (Q : VK) : Prop := ∀ x dx, H x = none → H dx = none → dx ≠ x → sp (args (.ref x)) (upd (upd H dx (.own x)) x (.ins C dx [])) (fun v H3 => v = .non ∧ Q (.ref x) H3) E
theorem make {C : Addr} {sp : Sp} {args : V → List V} {E : XK} {H : Hp} {Q : VK} (q : ∀ (x dx : Addr) (H' : Hp), H x = none → H' x = some (.ins C dx []) → Same H H' → sp (args (.ref x)) H' (fun v H3 => v = .non ∧ Q (.ref x) H3) E) : Make C sp args E H Q :=
  fun x dx nx ndx _ => q x dx _ nx upd_same fun b o e => by
    rw [upd_ne (ne_of_none e nx), upd_ne (ne_of_none e ndx)]
    exact e
/-- a dict's display, store and read -/
def DAll (p : Addr) (ps : List (V × V)) (Q : VK) (H : Hp) : Prop := H p = some (.dK []) ∧ ∃ kvs : List (Key × V), ps = kvs.map (fun kv => (kV kv.1, kv.2)) ∧ kvs.length ≤ 15 ∧ Q (.ref p) (upd H p (.dK (mergeK [] kvs)))
theorem dall {p : Addr} {ps : List (V × V)} {Q : VK} {H : Hp} {ks : List (Key × V)} (kvs : List (Key × V)) (h : H p = some (.dK [])) (e : ps = kvs.map (fun kv => (kV kv.1, kv.2))) (l : kvs.length ≤ 15) (m : mergeK [] kvs = ks)
    (q : ∀ H' : Hp, H' p = some (.dK ks) → (∀ b, b ≠ p → H' b = H b) → Q (.ref p) H') : DAll p ps Q H := ⟨h, kvs, e, l, q _ (by rw [← m]; exact upd_same) fun b nb => upd_ne nb⟩
def DPutQ (v x y : V) (H : Hp) (QH : Hp → Prop) : Prop := ∃ a H4, x = .ref a ∧ DPut H a y v H4 ∧ QH H4
theorem dput {v : V} {p : Addr} {H : Hp} {QH : Hp → Prop} {kvs ks : List (Key × V)} (k : Key) (h : H p = some (.dK kvs)) (l : kvs.length < sizeLine) (m : putK kvs k v = ks)
    (q : ∀ H' : Hp, H' p = some (.dK ks) → (∀ b, b ≠ p → H' b = H b) → QH H') : DPutQ v (.ref p) (kV k) H QH := ⟨p, _, rfl, DPut.k h l, q _ (by rw [← m]; exact upd_same) fun b nb => upd_ne nb⟩
def DGetQ (x y : V) (H : Hp) (Q : VK) : Prop := ∃ a v, x = .ref a ∧ DGet H a y (some v) ∧ Q v H
theorem dget {v : V} {p : Addr} {H : Hp} {Q : VK} {kvs : List (Key × V)} (k : Key) (h : H p = some (.dK kvs)) (e : valV kvs k = some v) (q : Q v H) : DGetQ (.ref p) (kV k) H Q := ⟨p, v, rfl, by rw [← e]; exact DGet.k h, q⟩
/-- what a for asks -/
def Loop (J : It) (g : TG) (tb : TS) (D : Ends) (σ : L2.St) (H : Hp) : Prop := ∃ W : Nat → Nat → L2.St → Hp → Prop, (∃ m, W 0 m σ H) ∧ ∀ i m σ H, W i m σ H →
  (J.stop i H ∧ D.nx σ H) ∨ (J.go i H ∧ ∃ N : L2.St → Hp → Prop, (∀ σ' H', N σ' H' → ∃ m', m' < m ∧ W (i + 1) m' σ' H') ∧ ∀ x H', J.yld i H x H' → g x σ H' fun σ2 H2 => tb { D with nx := N, ct := N, bk := D.nx } σ2 H2)
def OverT (K : PySem.W.Frag) (x : V) (H : Hp) (R : It → Hp → Prop) : Prop := ∃ a, x = .ref a ∧ (∃ xs, SqT K H a xs) ∧ R (Itt K a) H
theorem over_t {K : PySem.W.Frag} {a : Addr} {xs : List V} {H : Hp} {R : It → Hp → Prop} (h : SqT K H a xs) (q : R (Itt K a) H) : OverT K (.ref a) H R := ⟨a, rfl, ⟨xs, h⟩, q⟩
def OverL (K : PySem.W.Frag) (x : V) (H : Hp) (R : It → Hp → Prop) : Prop := ∃ a, x = .ref a ∧ (∃ xs, SqL K H a xs) ∧ R (Itl K a) H
theorem over_l {K : PySem.W.Frag} {a : Addr} {xs : List V} {H : Hp} {R : It → Hp → Prop} (h : SqL K H a xs) (q : R (Itl K a) H) : OverL K (.ref a) H R := ⟨a, rfl, ⟨xs, h⟩, q⟩
def OverR (vs : List V) (H : Hp) (R : It → Hp → Prop) : Prop := ∃ j : Int, vs = [.int j] ∧ -(2 ^ 62) ≤ j ∧ j < 2 ^ 62 ∧ R (Itr 0 j.toNat) H
theorem over_r {j : Int} {H : Hp} {R : It → Hp → Prop} (h1 : -(2 ^ 62) ≤ j) (h2 : j < 2 ^ 62) (q : R (Itr 0 j.toNat) H) : OverR [.int j] H R := ⟨j, rfl, h1, h2, q⟩
/-- what a method's call asks of the object -/
def Mth (C : Addr) (m : Str) (x : V) (H : Hp) (B : Prop) : Prop := ∃ a dx fs, x = .ref a ∧ H a = some (.ins C dx fs) ∧ fs.lookup m = none ∧ B
theorem mth {C a dx : Addr} {m : Str} {fs : List (Str × V)} {H : Hp} {B : Prop} (h : H a = some (.ins C dx fs)) (l : fs.lookup m = none) (q : B) : Mth C m (.ref a) H B := ⟨a, dx, fs, rfl, h, l, q⟩
/-- a tuple of the written part -/
def KTup (K : PySem.W.Frag) (a : Addr) (xs : List V) : Prop := ∃ (o : Obj) (its : Array Value) (n : Nat), K.lookup a = some o ∧ o.cls = .type "tuple" ∧ o.data = .seq its n ∧ its.size ≤ sizeLine ∧ Vals xs its.toList
theorem KTup.t {K : PySem.W.Frag} {a : Addr} {xs : List V} (h : KTup K a xs) (H : Hp) : SqT K H a xs := .inr h
/-- what a display asks: a new object -/
def New (o : List V → HO) (Q : VK) (xs : List V) (H : Hp) : Prop := xs.length ≤ sizeLine ∧ ∀ p, H p = none → Q (.ref p) (upd H p (o xs))
/-- .. the heap behind it a letter -/
theorem new {o : List V → HO} {Q : VK} {xs : List V} {H : Hp} (h : xs.length ≤ sizeLine) (q : ∀ (p : Addr) (H' : Hp), H p = none → H' p = some (o xs) → Same H H' → Q (.ref p) H') : New o Q xs H :=
  ⟨h, fun p np => q p _ np upd_same fun b u e => by rw [upd_ne (ne_of_none e np)]; exact e⟩
section
variable {σ : L2.St} {H : Hp} {Q : VK} {v : V} {ta tb te : TE} {t u : TS} {D : Ends} {i j : Int} {tc : TT} {QB : Bool → Hp → Prop} {QA : List V → Hp → Prop} {tr : TA} {r : R2}
theorem w_var {n : Nat} (h : σ[n]? = some (some v)) (q : Q v H) : tVar n σ H Q := ⟨v, h, q⟩
theorem w_c (q : Q v H) : tC v σ H Q := q
theorem w_op (q : ta σ H fun x H1 => tb σ H1 fun y H2 => r x y H2 Q) : tOp r ta tb σ H Q := q
theorem w_un {r : V → Hp → VK → Prop} (q : ta σ H fun x H1 => r x H1 Q) : tUn r ta σ H Q := q
theorem w_add (q : Q (.int (i + j)) H) : rI0 (fun i j => .int (i + j)) (.int i) (.int j) H Q := ⟨i, j, rfl, rfl, q⟩
theorem w_sub (q : Q (.int (i - j)) H) : rI0 (fun i j => .int (i - j)) (.int i) (.int j) H Q := ⟨i, j, rfl, rfl, q⟩
theorem w_mul (c : CMul i j) (q : Q (.int (i * j)) H) : rI CMul (fun i j => .int (i * j)) (.int i) (.int j) H Q := ⟨i, j, rfl, rfl, c, q⟩
theorem w_mod (c : 0 < j) (q : Q (.int (i % j)) H) : rI (fun _ j => 0 < j) (fun i j => .int (i % j)) (.int i) (.int j) H Q := ⟨i, j, rfl, rfl, c, q⟩
theorem w_fdiv (c : CDiv i j) (q : Q (.int (i / j)) H) : rI CDiv (fun i j => .int (i / j)) (.int i) (.int j) H Q := ⟨i, j, rfl, rfl, c, q⟩
theorem w_pow (c : CPow i j) (q : Q (.int (i ^ j.toNat)) H) : rI CPow (fun i j => .int (i ^ j.toNat)) (.int i) (.int j) H Q := ⟨i, j, rfl, rfl, c, q⟩
theorem w_and (q : Q (.int (Builtin.bitAnd i j)) H) : rI0 (fun i j => .int (Builtin.bitAnd i j)) (.int i) (.int j) H Q := ⟨i, j, rfl, rfl, q⟩
theorem w_or (q : Q (.int (Builtin.bitOr i j)) H) : rI0 (fun i j => .int (Builtin.bitOr i j)) (.int i) (.int j) H Q := ⟨i, j, rfl, rfl, q⟩
theorem w_xor (q : Q (.int (Builtin.bitXor i j)) H) : rI0 (fun i j => .int (Builtin.bitXor i j)) (.int i) (.int j) H Q := ⟨i, j, rfl, rfl, q⟩
theorem w_gt (q : Q (.bl (decide (j < i))) H) : rI0 (fun i j => .bl (decide (j < i))) (.int i) (.int j) H Q := ⟨i, j, rfl, rfl, q⟩
theorem w_lt (q : Q (.bl (decide (i < j))) H) : rI0 (fun i j => .bl (decide (i < j))) (.int i) (.int j) H Q := ⟨i, j, rfl, rfl, q⟩
theorem w_ge (q : Q (.bl (decide (j ≤ i))) H) : rI0 (fun i j => .bl (decide (j ≤ i))) (.int i) (.int j) H Q := ⟨i, j, rfl, rfl, q⟩
theorem w_le (q : Q (.bl (decide (i ≤ j))) H) : rI0 (fun i j => .bl (decide (i ≤ j))) (.int i) (.int j) H Q := ⟨i, j, rfl, rfl, q⟩
theorem w_eq {x y : V} (s : scal x y = true) (q : Q (.bl (decide (x = y))) H) : rEq x y H Q := ⟨s, q⟩
theorem w_ne {x y : V} (s : scal x y = true) (q : Q (.bl (!decide (x = y))) H) : rNe x y H Q := ⟨s, q⟩
theorem w_test (q : te σ H fun x H' => ∃ k, x = .bl k ∧ QB k H') : tTest te σ H QB := q
theorem w_tB (q : te σ H fun x H' => ∃ k, x = .bl k ∧ QB k H') : tB te σ H QB := q
theorem w_bl {b : Bool} {B : Bool → Prop} (q : B b) : ∃ k, V.bl b = .bl k ∧ B k := ⟨b, rfl, q⟩
theorem w_seq (q : t { D with nx := u D } σ H) : tSeq t u D σ H := q
theorem w_ret (q : te σ H D.rt) : tRet te D σ H := q
theorem w_next (q : D.nx σ H) : tNext D σ H := q
theorem w_asg {g : TG} (q : te σ H fun x H1 => g x σ H1 D.nx) : tAsg te g D σ H := q
theorem w_gname {n : Nat} {QS : L2.St → Hp → Prop} (q : QS (σ.set n (some v)) H) : gName n v σ H QS := q
theorem w_ifs (q : tc σ H fun b H1 => if b = true then t D σ H1 else u D σ H1) : tIfS tc t u D σ H := q
theorem w_ifx (q : tc σ H fun c H1 => if c = true then ta σ H1 Q else tb σ H1 Q) : tIf tc ta tb σ H Q := q
theorem w_nil (q : QA [] H) : tNil σ H QA := q
theorem w_cons (q : ta σ H fun x H1 => tr σ H1 fun xs H2 => QA (x :: xs) H2) : tCons ta tr σ H QA := q
theorem w_tup (q : tr σ H fun xs H1 => New HO.tup Q xs H1) : tTup tr σ H Q := q
theorem w_lst (q : tr σ H fun xs H1 => New HO.lst Q xs H1) : tLst tr σ H Q := q
theorem w_and2 {tt uu : TT} (q : tt σ H fun c H1 => if c = true then uu σ H1 QB else QB false H1) : tAnd tt uu σ H QB := q
theorem w_or2 {tt uu : TT} (q : tt σ H fun c H1 => if c = true then QB true H1 else uu σ H1 QB) : tOr tt uu σ H QB := q
theorem w_not {tt : TT} (q : tt σ H fun c H1 => QB (!c) H1) : tNot tt σ H QB := q
theorem w_cb {r : List V → Hp → VK → Prop} (q : tr σ H fun vs H1 => r vs H1 Q) : tCB r tr σ H Q := q
theorem w_call {sp : Sp} {dvs : List V} {E : XK} (q : tr σ H fun vs H1 => sp (vs ++ dvs) H1 Q E) : tCall sp dvs E tr σ H Q := q
theorem w_ixL {K : PySem.W.Frag} {p : Addr} {xs : List V} (h : SqL K H p xs) (a : atI xs i = some v) (q : Q v H) : rIxL K (.ref p) (.int i) H Q := ⟨p, xs, i, v, rfl, rfl, h, a, q⟩
theorem w_ixT {K : PySem.W.Frag} {p : Addr} {xs : List V} (h : SqT K H p xs) (a : atI xs i = some v) (q : Q v H) : rIxT K (.ref p) (.int i) H Q := ⟨p, xs, i, v, rfl, rfl, h, a, q⟩
theorem w_gsub {to ti : TE} {ts : TSet} {QS : L2.St → Hp → Prop} (q : to σ H fun o H1 => ti σ H1 fun i H2 => ts o i v H2 fun H3 => QS σ H3) : gSub to ti ts v σ H QS := q
theorem w_setL {p : Addr} {xs : List V} {n : Nat} {QH : Hp → Prop} (h : H p = some (.lst xs)) (a : ixN xs.length i = some n) (q : QH (upd H p (.lst (xs.set n v)))) : rSetL (.ref p) (.int i) v H QH := ⟨p, xs, i, n, rfl, rfl, h, a, q⟩
/-- the store, the heap behind it a letter -/
theorem w_setG {p : Addr} {xs ys : List V} {n : Nat} {QH : Hp → Prop} (h : H p = some (.lst xs)) (a : ixN xs.length i = some n) (e : xs.set n v = ys)
    (q : ∀ H' : Hp, H' p = some (.lst ys) → (∀ b, b ≠ p → H' b = H b) → QH H') : rSetL (.ref p) (.int i) v H QH := ⟨p, xs, i, n, rfl, rfl, h, a, q _ (by rw [← e]; exact upd_same) fun b nb => upd_ne nb⟩
theorem w_fld {K : PySem.W.Frag} {f : Str} (q : ta σ H fun x H1 => Fld K f x H1 Q) : tFld K ta f σ H Q := q
theorem w_sfld {K : PySem.W.Frag} {tv : TE} {f : Str} (q : tv σ H fun y H1 => ta σ H1 fun x H2 => SFld K f y x H2 (fun H3 => D.nx σ H3)) : sFld K ta tv f D σ H := q
theorem w_par {m n : Nat} {ta : TA} (q : ta σ H fun vs H1 => ∃ v w, vs = [v, w] ∧ D.nx ((σ.set m (some v)).set n (some w)) H1) : tPar m n ta D σ H := q
theorem w_andV {ta tb : TE} (q : ta σ H fun x H1 => ∃ c, x = .bl c ∧ if c = true then tb σ H1 Q else Q (.bl false) H1) : tAndV ta tb σ H Q := q
theorem w_orV {ta tb : TE} (q : ta σ H fun x H1 => ∃ c, x = .bl c ∧ if c = true then Q (.bl true) H1 else tb σ H1 Q) : tOrV ta tb σ H Q := q
theorem w_mid (M : L2.St → Hp → Prop) (a : t { D with nx := M } σ H) (b : ∀ σ' H', M σ' H' → u D σ' H') : tMid t u D σ H := ⟨M, a, b⟩
theorem w_in {K : PySem.W.Frag} {neg : Bool} {x : V} {p : Addr} {xs : List V} (h : SqL K H p xs ∨ SqT K H p xs) (f : flatV x = true) (fs : xs.all flatV = true) (q : Q (.bl (if neg then !inV x xs else inV x xs)) H) : rIn K neg x (.ref p) H Q := ⟨p, xs, rfl, h, f, fs, q⟩
theorem w_kd {K : PySem.W.Frag} {w : World} {p : Addr} {z : Str} (h : KDct K w p z v) (q : Q v H) : rIxD K w (.ref p) (.str z) H Q := ⟨p, z, v, rfl, rfl, h, q⟩
theorem w_meth {C : Addr} {m : Str} {sp : Sp} {dvs : List V} {E : XK} {tr : TA} (q : ta σ H fun x H1 => Mth C m x H1 (tr σ H1 fun vs H2 => sp (x :: (vs ++ dvs)) H2 Q E)) : tMeth C m sp dvs E ta tr σ H Q := q
theorem w_methK {C : Addr} {m : Str} {n : Nat} {sp : Sp} {gV : List V → List V → List V} {E : XK} {tr : TA} (q : ta σ H fun x H1 => Mth C m x H1 (tr σ H1 fun zs H2 => zs.length = n ∧ sp (gV [x] zs) H2 Q E)) : tMethK C m n sp gV E ta tr σ H Q := q
theorem w_for {wi : TI} {g : TG} {tb : TS} (q : wi σ H fun J H1 => Loop J g tb D σ H1) : tFor wi g tb D σ H := q
theorem w_itup {K : PySem.W.Frag} {tl : TE} {R : It → Hp → Prop} (q : tl σ H fun x H1 => OverT K x H1 R) : iTup K tl σ H R := q
theorem w_ilist {K : PySem.W.Frag} {tl : TE} {R : It → Hp → Prop} (q : tl σ H fun x H1 => OverL K x H1 R) : iList K tl σ H R := q
theorem w_irng {ta : TA} {R : It → Hp → Prop} (q : ta σ H fun vs H1 => OverR vs H1 R) : iRng1 ta σ H R := q
theorem w_disp {trs : List (TE × TE)} (q : ∀ (p : Addr) (H1 : Hp), H p = none → H1 p = some (.dK []) → Same H H1 → tPairs trs σ H1 fun ps H2 => DAll p ps Q H2) : tDisp trs σ H Q :=
  fun p np => q p _ np upd_same fun b u e => by rw [upd_ne (ne_of_none e np)]; exact e
theorem w_pnil {QP : List (V × V) → Hp → Prop} (q : QP [] H) : tPairs [] σ H QP := q
theorem w_pcons {tk tv : TE} {r : List (TE × TE)} {QP : List (V × V) → Hp → Prop} (q : tk σ H fun x H1 => tv σ H1 fun y H2 => tPairs r σ H2 fun ps H3 => QP ((x, y) :: ps) H3) : tPairs ((tk, tv) :: r) σ H QP := q
theorem w_dput {td ty tv : TE} (q : tv σ H fun v H1 => td σ H1 fun x H2 => ty σ H2 fun y H3 => DPutQ v x y H3 (fun H4 => D.nx σ H4)) : sDPut td ty tv D σ H := q
theorem w_dget {td ty : TE} (q : td σ H fun x H1 => ty σ H1 fun y H2 => DGetQ x y H2 Q) : tDGet td ty σ H Q := q
theorem w_make {C : Addr} {sp : Sp} {dvs : List V} {E : XK} {tr : TA} (q : tr σ H fun vs H1 => Make C sp (fun x => x :: (vs ++ dvs)) E H1 Q) : tMake C sp dvs E tr σ H Q := q
theorem w_makeK {C : Addr} {n : Nat} {sp : Sp} {gV : List V → List V → List V} {E : XK} {tr : TA} (q : tr σ H fun zs H2 => zs.length = n ∧ Make C sp (fun x => gV [x] zs) E H2 Q) : tMakeKG C n sp gV E tr σ H Q := q
theorem w_drop (q : te σ H fun _ H1 => D.nx σ H1) : tDrop te D σ H := q
end
end KG

set_option Elab.async false
set_option linter.all false
set_option maxRecDepth 100000
set_option maxHeartbeats 4000000
/-! KX: an error that a suite keeps under another name, and what is asked of it later. -/
namespace KG
open PySem PySem.Spec PyProof.Rows L2

/-- a caught error of the class cls at a, its dict d -/
def ErrO (cls : Value) (d : Option Addr) (a : Addr) : HO := .ext fun h => ∃ (oe : Obj) (vs : Array Value), h.get? a = some oe ∧ Zc cls d oe ∧ oe.data = .fields vs
theorem errO_ok {P : Program} {w : World} {H : Hp} {h : Heap} {cls : Value} {d : Option Addr} {a : Addr} {oe : Obj} {vs : Array Value} (e : h.get? a = some oe) (z : Zc cls d oe) (dd : oe.data = .fields vs) : ObjOk P w H h a (ErrO cls d a) :=
  ⟨⟨oe, vs, e, z, dd⟩, ⟨oe, e⟩, fun _ _ ⟨o, v, q, r⟩ k => ⟨o, v, k o q, r⟩⟩
theorem errO_at {P : Program} {w : World} {H : Hp} {h : Heap} {cls : Value} {d : Option Addr} {a : Addr} (hok : HOk P w H h) (e : H a = some (ErrO cls d a)) : ∃ (oe : Obj) (vs : Array Value), h.get? a = some oe ∧ Zc cls d oe ∧ oe.data = .fields vs := by
  have x : ObjOk P w H h a (.ext fun h => ∃ (oe : Obj) (vs : Array Value), h.get? a = some oe ∧ Zc cls d oe ∧ oe.data = .fields vs) := hok a _ e
  exact x.1

section
variable {X : Cx} {pins : List (Addr × Obj)} {σ : L2.St} {H : Hp} {s : Shared}
/-- an object that was not there at the entry is known from now on -/
theorem inv_know {a : Addr} {oe : Obj} {vs : Array Value} {o : HO} (I : Inv X pins σ H s) (ha : s.heap.get? a = some oe) (hd : oe.data = .fields vs) (new : ObjOk X.prog X.w (upd H a o) s.heap a o) (na : H a = none) (nL : a ≠ X.env.locals)
    (n0 : X.s_0.heap.get? a = none) (np : ∀ p ∈ X.pn ++ pins, p.1 ≠ a) : Inv X pins σ (upd H a o) s := by
  have nT : ∀ {b u}, H b = some u → b ≠ a := fun e => ne_of_none e na
  have nC : ∀ x c, X.env.cells.lookup x = some c → c ≠ a := fun x c e z => by
    obtain ⟨v, oc, e1, e2⟩ := I.cell x c e
    rw [z, ha] at e1
    cases e1
    rw [hd] at e2
    cases e2
  refine ⟨I.ok, I.os, I.bare, ⟨I.base.keep, I.base.slot, fun b u e n hx => ?_, I.base.there, fun b xs e => ?_, fun b u v e => ?_, fun b ps e => ?_⟩, I.loc, I.cell, ?_, fun x c e => ?_, fun p hp => ?_, fun b u e => ?_, I.len⟩
  · rw [upd_ne (fun z => by rw [z, n0] at e; cases e)]
    exact I.base.free b u e n hx
  · have q := I.base.tups b xs e
    rw [upd_ne (nT q)]; exact q
  · have q := I.base.frzs b u v e
    rw [upd_ne (nT q)]; exact q
  · obtain ⟨m, q⟩ := I.base.tbls b ps e
    exact ⟨m, by rw [upd_ne (nT q)]; exact q⟩
  · rw [upd_ne (Ne.symm nL)]; exact I.free
  · rw [upd_ne (nC x c e)]; exact I.freeC x c e
  · obtain ⟨e, n, ne, nf, d⟩ := I.pin p hp
    exact ⟨e, by rw [upd_ne (np p hp)]; exact n, ne, nf, d⟩
  · by_cases hb : b = a
    · subst hb
      rw [upd_same] at e
      cases e
      exact new
    · rw [upd_ne hb] at e
      exact (I.hok b u e).stay (fun c v _ q => q) (fun c q => by rw [upd_ne (nT q)]; exact q) fun c xs q => by rw [upd_ne (nT q)]; exact q
end

/-- what the clause wishes, the error known behind its suite; slot i is the name's -/
def wKeep (K : PySem.W.Frag) (c : Value) (i : Nat) (ts : Addr → Value → Option Addr → TS) (Wout : WX) (D : Ends) : WX := fun cls d σ H => ∃ b, PySem.W.exmOne K cls c = some b ∧
  (b = true → ∀ a, H a = none → ts a cls d
    { nx := fun τ G => D.nx (τ.set i none) (upd G a (ErrO cls d a)), rt := fun v G => D.rt v (upd G a (ErrO cls d a)), bk := fun τ G => D.bk (τ.set i none) (upd G a (ErrO cls d a)), ct := fun τ G => D.ct (τ.set i none) (upd G a (ErrO cls d a)) } (σ.set i (some (.ref a))) H) ∧
  (b = false → Wout cls d σ H)

/-- an object of fields is no frame -/
theorem off_frames {B h : Heap} {l : List Env} {a : Addr} {o : Obj} {vs : Array Value} (ff : h.FunFrames B l) (e : h.get? a = some o) (d : o.data = .fields vs) : a ∉ frs l := by
  intro inside
  have ⟨_, p, ep, plain⟩ := ff.mem inside
  have same : o = p := Option.some.inj (e.symm.trans ep)
  exact plain vs (same ▸ d)
/-- where a caught error lies: beside the frames, the pins and all that was there at the entry -/
structure Beside (X : Cx) (pins : List (Addr × Obj)) (a : Addr) : Prop where
  own : a ≠ X.env.locals
  outer : a ∉ X.fs
  entry : X.s_0.heap.get? a = none
  pinned : ∀ p ∈ X.pn ++ pins, p.1 ≠ a
section
variable {X : Cx} {x n : Str} {c : Value} {i : Nat} {body suite : List Stmt} {b₀ : Stmt} {np pos pos' : Pos} {tb : WX → TS} {ts : Addr → Value → Option Addr → TS} {Wout : WX} {pins : List (Addr × Obj)} {σ : L2.St} {H : Hp} {s : Shared} {D : Ends}
theorem beside_of {B : Heap} {a : Addr} (stk : X.stack = X.env :: X.outer) (fr : X.env.frame = some X.env.locals) (noex : X.ex = []) (I : Inv X pins σ H s) (ground : ∀ b o, s.heap.get? b = some o → b ∉ frs X.stack → B.get? b = some o)
    (fresh : B.get? a = none) (off : a ∉ frs (X.env :: X.outer)) : Beside X pins a := by
  have gap : s.heap.get? a = none := by
    rcases e : s.heap.get? a with _ | o
    · rfl
    · have below := ground a o e (by rw [stk]; exact off)
      exact absurd (fresh.symm.trans below) (by simp)
  constructor
  · intro z
    refine off (List.mem_filterMap.mpr ⟨X.env, .head _, ?_⟩)
    rw [z, fr]
  · intro inside
    have ⟨env, henv, at_⟩ := List.mem_filterMap.mp inside
    exact off (List.mem_filterMap.mpr ⟨env, .tail _ henv, at_⟩)
  · rcases e : X.s_0.heap.get? a with _ | o
    · rfl
    · have ⟨_, still⟩ := I.base.there a o e (by rw [noex]; simp)
      exact absurd (gap.symm.trans still) (by simp)
  · intro p hp z
    have kept := (I.pin p hp).1
    rw [z] at kept
    exact absurd (gap.symm.trans kept) (by simp)
/-- the way out of the suite: the name goes, the error is known -/
theorem way_out {a : Addr} {oe : Obj} {vs : Array Value} {cls : Value} {d : Option Addr} {R : Shared → Prop} (ok : X.Ok) (nd : X.N.Nodup) (place : X.N[i]? = some n) (loc : X.env.kindOf n = some .local) (by_ : Beside X pins a) (z : Zc cls d oe) (dd : oe.data = .fields vs)
    (S : Inv (X.suite a ((a, oe) :: (X.pn ++ pins))) [] σ H s) (next : ∀ s', Inv X pins (σ.set i none) (upd H a (ErrO cls d a)) s' → R s') :
    wpAny (model X.prog X.w) X.A (do bindName X.env n .none; unbindBehindTheSuite X.env n pos') (fun _ s' => R s') X.xe s := by
  refine gone_ok (X := X.suite a ((a, oe) :: (X.pn ++ pins))) (pins := []) S nd place loc fun s' S' => next s' ?_
  have ⟨there, free, _⟩ := S'.pin (a, oe) (List.mem_append_left _ (.head _))
  exact inv_know (S'.unsuite ok) there dd (errO_ok there z dd) free by_.own by_.entry by_.pinned
/-- the clause's class by its name, within the suite's marks -/
theorem class_of_clause {a : Addr} {oe : Obj} {Q E : Value → Shared → Prop} (hc : Names X x c) (S : Inv (X.suite a ((a, oe) :: (X.pn ++ pins))) [] σ H s) (q : Q c s) : wpAny (model X.prog X.w) (X.A.mark (some (.ref a))) (eval (.Name x np) X.env) Q E s := by
  have ⟨glob, plain, from_⟩ := hc
  rcases from_ with own | ⟨no, boot, nn⟩
  · exact ld_glob (X := X.suite a ((a, oe) :: (X.pn ++ pins))) S glob own q plain
  · exact ld_blt (X := X.suite a ((a, oe) :: (X.pn ++ pins))) S glob no boot q nn plain
/-- an error that comes out of the body meets the clause -/
theorem clause_meets {xe₀ : Value → Shared → Prop} {u : Value} {s' : Shared} (stk : X.stack = X.env :: X.outer) (fr : X.env.frame = some X.env.locals) (noex : X.ex = []) (nd : X.N.Nodup) (place : X.N[i]? = some n) (loc : X.env.kindOf n = some .local) (hc : Names X x c) (tk : Takes X Wout)
    (inner : ∀ (a : Addr) (oe : Obj) (cls : Value) (d : Option Addr) (pn : List (Addr × Obj)), Zc cls d oe → (∃ vs, oe.data = .fields vs) → PSs (X.suite a ((a, oe) :: pn)) (b₀ :: suite) (ts a cls d)) (ok : X.Ok) (xx : XE (X.tr (X.pn ++ pins) xe₀) (wKeep X.K c i ts Wout D) u s') :
    wpAny (model X.prog X.w) X.A (noteFrame u X.env) (fun _ s₂ => wpAny (model X.prog X.w) X.A (setFlight u none) (fun _ s₃ => wpAny (model X.prog X.w) X.A (handleBy u X.env [.ExceptHandler (some (.Name x np)) (some n) (b₀ :: suite) pos']) (SP X pins D) X.xe s₃) X.xe s₂) X.xe s' := by
  have ⟨a, B, sI, _, τ, G, cls, d, eu, J', ground, grown, sky, free, os, bare, b, which, yes, no⟩ := xx
  subst eu
  have J : Inv X pins τ G sI := J'.ofTry ok
  have all_frames : X.A.frames = some (X.env :: X.outer) := stk ▸ ok.frames
  refine Sky.land (Zc.steady (cls := cls) (d := d)) all_frames fr (stk ▸ sky) fun h1 fl1 g1 => ?_
  have I1 : Inv X pins τ G { s' with heap := h1 } := J.landed ground fl1.1 (grown.trans g1) os bare
  have ⟨o1, v1, at1, z1, d1⟩ := fl1.there
  have by_ : Beside X pins a := beside_of stk fr noex J ground fl1.2.1 (off_frames fl1.2.2.1 at1 d1)
  have T1 := I1.suite at1 d1 free by_.own by_.outer
  have kind : PySem.W.Looks (model X.prog X.w) h1 (typeOf (.ref a)) cls := fun _ _ _ _ keeps q => wpAny_typeOf_ref (keeps _ _ at1) (z1.1.symm ▸ q)
  refine wpAny_handleBy_cons (codeAny_handlers_test (class_of_clause hc T1 ((PySem.W.exm_one (M := model X.prog X.w) I1.kIn kind which).here ?_))) (fun z => nomatch z)
  rcases b with _ | _
  · -- another clause's, or nobody's: it goes on
    refine wpAny_handleBy_nil ?_
    have goes : wpAny (model X.prog X.w) X.A (setFlight (.ref a) X.env.frame) (fun _ s₄ => wpAny (model X.prog X.w) X.A (throw (.ref a) : Sem Flow) (SP X pins D) X.xe s₄) X.xe { s' with heap := h1 } := by
      rw [fr]
      exact HandSPX.setFlight_upZ fl1 fun h2 held g2 => wpAny_throw (tk _ _ ⟨a, B, sI, pins, τ, G, cls, d, rfl, J, ground, (grown.trans g1).trans g2, .inr (.inr (by rw [stk]; exact held)), free, os, bare, no rfl⟩)
    have ⟨_, _, _, _, _, T, _, _, atE, _, dE, first, _⟩ := fl1
    unfold PySem.passOn
    refine wpAny_bind (wpAny_field atE dE first ?_)
    have some_ : ¬ ((Value.ref T == Value.none) = true) := by simp
    rw [if_neg some_]
    first
      | exact wpAny_bind (wpAny_pure (wpAny_bind goes))
      | exact wpAny_bind goes
  · -- this clause's: the suite
    refine codeAny_handlers_suite_as (HandSPX.lands_againZ fl1 fun h2 fl2 g2 => ?_)
    have ⟨o2, v2, at2, z2, d2⟩ := fl2.there
    have T2 := (J.landed ground fl2.1 ((grown.trans g1).trans g2) os bare : Inv X pins τ G { s' with heap := h2 }).suite at2 d2 free by_.own by_.outer
    refine store_ok (X := X.suite a ((a, o2) :: (X.pn ++ pins))) (v := .ref a) T2 nd place (.inl loc) rfl (fun s3 T3 => ?_) (.inr loc)
    refine wpAny_mono ((inner a o2 cls d (X.pn ++ pins) z2 ⟨_, d2⟩).run [] s3 _ G _ T3 (yes rfl a free)) (fun flow s4 ends => ?_) (fun _ _ z => False.elim z)
    match flow, ends with
    | .next, ⟨_, _, T4, q⟩ => exact way_out ok nd place loc by_ z2 d2 T4 fun _ I5 => ⟨_, _, I5, q⟩
    | .brk, ⟨_, _, T4, q⟩ => exact way_out ok nd place loc by_ z2 d2 T4 fun _ I5 => ⟨_, _, I5, q⟩
    | .cont, ⟨_, _, T4, q⟩ => exact way_out ok nd place loc by_ z2 d2 T4 fun _ I5 => ⟨_, _, I5, q⟩
    | .ret _, ⟨_, _, _, T4, r, q⟩ => exact way_out ok nd place loc by_ z2 d2 T4 fun _ I5 => ⟨_, _, _, I5, r, q⟩
/-- try: body / except x as n: suite; the error is known behind the suite -/
theorem ps_try_keep (hs : X.stack = X.env :: X.outer) (hf : X.env.frame = some X.env.locals) (hex : X.ex = []) (hN : X.N.Nodup) (hi : X.N[i]? = some n) (hln : X.env.kindOf n = some .local) (hc : Names X x c) (tk : Takes X Wout)
    (hb : ∀ (W : WX) (pn : List (Addr × Obj)) (xe : Value → Shared → Prop), Takes (X.tr pn xe) W → PassesOwn (model X.prog X.w) X.A X.env xe → PSs (X.tr pn xe) body (tb W))
    (hsu : ∀ (a : Addr) (oe : Obj) (cls : Value) (d : Option Addr) (pn : List (Addr × Obj)), Zc cls d oe → (∃ vs, oe.data = .fields vs) → PSs (X.suite a ((a, oe) :: pn)) (b₀ :: suite) (ts a cls d)) :
    PS X (.Try body [.ExceptHandler (some (.Name x np)) (some n) (b₀ :: suite) pos'] [] [] pos) (fun D σ H => tb (wKeep X.K c i ts Wout D) D σ H) := by
  constructor
  intro pins s σ H D I start_
  refine wpAny_Try_except ?_
  refine wpAny_mono ((hb _ (X.pn ++ pins) (fun u s₁ => wpAny (model X.prog X.w) X.A (noteFrame u X.env) (fun _ s₂ => wpAny (model X.prog X.w) X.A (setFlight u none) (fun _ s₃ => wpAny (model X.prog X.w) X.A (handleBy u X.env [.ExceptHandler (some (.Name x np)) (some n) (b₀ :: suite) pos']) (SP X pins D) X.xe s₃) X.xe s₂) X.xe s₁)
    (fun _ _ xx => clause_meets hs hf hex hN hi hln hc tk hsu I.ok xx) PassesOwn.looking).run [] s σ H D (I.toTry _) start_) (fun flow s1 ends => ?_) (fun _ _ z => z)
  match flow, ends with
  | .next, ⟨_, _, T, q⟩ => exact wpAny_execs_nil ⟨_, _, T.ofTry I.ok, q⟩
  | .brk, ⟨_, _, T, q⟩ => exact ⟨_, _, T.ofTry I.ok, q⟩
  | .cont, ⟨_, _, T, q⟩ => exact ⟨_, _, T.ofTry I.ok, q⟩
  | .ret _, ⟨_, _, _, T, r, q⟩ => exact ⟨_, _, _, T.ofTry I.ok, r, q⟩
end

/-! ### what is asked of a known error -/
/-- isinstance(e, c): D the error's class -/
def rIsErr (K : PySem.W.Frag) : List V → Hp → VK → Prop := fun xs H Q => ∃ (a D : Addr) (dd : Addr) (fs : List (Str × V)) (c : V) (cv : Value) (b : Bool), xs = [.ref a, c] ∧ H a = some (ErrO (.ref D) (some dd) a) ∧ H dd = some (.xd fs) ∧ ExcC K D ∧
  (∀ u, RelV c u → u = cv) ∧ PySem.W.kitOne K (.ref D) cv = some b ∧ Q (.bl b) H
theorem excC_cls {K : PySem.W.Frag} {D : Addr} (C : ExcC K D) : (PySem.W.clsIn K D).isSome = true := by
  obtain ⟨cd, hc, _⟩ := PySem.W.any_some C.hd
  rw [hc] <;> rfl
theorem call_isErr {X : Cx} : CallR X (.builtin "isinstance") (rIsErr X.K) := by
  intro pins s σ H xs us Q I r h
  obtain ⟨a, D, dd, fs, c, cv, b, rfl, ha, hdd, C, hcv, e, q⟩ := h
  cases r with
  | cons rx rr =>
    cases rr with
    | cons rt rr =>
      cases rr
      cases rx
      have ec := hcv _ rt
      subst ec
      obtain ⟨oe, vs, hget, hz, hv⟩ := errO_at I.hok ha
      obtain ⟨mA, ⟨od, _, _, ho, _⟩, _⟩ := I.hok dd _ hdd
      have J : PySem.W.InstAt s.heap a oe D (some od) := by
        obtain ⟨oc, oda, odt, osl⟩ := oe
        obtain ⟨h1, h2⟩ := hz
        dsimp only at h1 h2 hv
        subst h1 h2 hv
        exact ⟨hget, rfl, rfl, ho⟩
      exact PySem.W.kia_one (PySem.W.kitx_exc (excC_cls C) C.hg C.hk C.hs C.ha C.hn C.ht C.hm) I.kIn J e (fun z => nomatch z) fun tk => ⟨.bl b, H, I.kept (t' := tk) fun _ _ z => z, rfl, q⟩
/-- e.f of a known error -/
def tErrF (K : PySem.W.Frag) (te : TE) (f : Str) : TE := fun σ H Q => te σ H fun x H1 => ∃ (a C dd : Addr) (fs : List (Str × V)) (v : V), x = .ref a ∧ H1 a = some (ErrO (.ref C) (some dd) a) ∧ H1 dd = some (.xd fs) ∧ XfC K C ∧ PySem.W.findIn K (.ref C) f = some none ∧ fs.lookup f = some v ∧ Q v H1
theorem pe_errf {X : Cx} {e : Expr} {te : TE} {pos : Pos} {n : Str} (he : PE X e te) (hb : attributeBase e n X.env (eval e X.env) = eval e X.env := by rfl) : PE X (.Attribute e n pos) (tErrF X.K te n) := by
  refine ⟨fun pins s σ H Q I h => ?_⟩
  refine attr_of hb (thn (he.run pins s σ H _ I h) fun u s1 hh => ?_)
  obtain ⟨x, H1, I1, rx, a, C, dd, fs, v, ex, ha, hdd, T, hno, l, q⟩ := hh
  subst ex
  obtain rfl : u = Value.ref a := rx
  obtain ⟨oe, vs, hget, hz, hv⟩ := errO_at I1.hok ha
  obtain ⟨mA, hns, hr⟩ := I1.hok dd _ hdd
  obtain ⟨od, ho, hl⟩ := lookIn_ns hns
  obtain ⟨u, hu, ru⟩ := RelO.some_of (v := v) (o := mA n) (by rw [← l]; exact hr n)
  have J : PySem.W.InstAt s1.heap a oe C (some od) := ⟨hget, hz.1, by unfold PySem.W.notCls; rw [hv] <;> rfl, by rw [hz.2]; exact ho⟩
  exact HandSPX.exc_get I1.kIn J T.ga T.gg T.exC (PySem.W.findObj_own T.hdC hno rfl (by rw [hl, hu])) (handed_of ru) ⟨v, H1, I1.tok _, ru, q⟩
end KG

set_option Elab.async false
set_option linter.all false
set_option maxRecDepth 100000
set_option maxHeartbeats 4000000
/-! KE1: an own error, its __init__ of two lines: super().__init__('..'), self.f = value. -/
namespace KG
open PySem PySem.Spec PySem.Calls PyProof.Rows L2
open PySem.W (ksFn ksEnv)

/-- what the written part says of such a class at C, its __init__ at fI; pv: the value's name, fld: the field -/
structure ErrC (prog : Program) (K : PySem.W.Frag) (C fI : Addr) (qual pv fld : Str) (params : Arguments) (body : List Stmt) (scope : Scope) : Prop where
  cls : OexC K C
  ini : PySem.W.findIn K (.ref C) "__init__" = some (some (.ref fI))
  fn : PySem.W.typeIn K (.ref fI) = some (.type "function")
  fun_ : ∃ (oc kV doc pm ct : Value) (an od : Option Addr) (cda cc : Addr) (osl : Array (Option Value)) (ccl cl : Value) (cdd cld : Option Addr) (vs : Array Value) (ccs csl : Array (Option Value)) (file : Str) (tf : Tok),
    K.lookup fI = some ⟨oc, od, .func (ksFn "__init__" qual params body scope .none kV doc pm an (.ref cda) ct cc), osl⟩ ∧ PySem.W.codeIn K (.ref cda) qual = true ∧
    K.lookup cda = some ⟨ccl, cdd, .fields vs, ccs⟩ ∧ vs[2]? = some (.str file tf) ∧ ((prog.main.file : Str) == file) = true ∧ K.lookup cc = some ⟨cl, cld, .cell (some (.ref C)), csl⟩
  self_ : PySem.W.mroIn K C (.ref C) = some true
  up : PySem.W.ks_superIn K C C "__init__" = some (some (.builtin "ValueError.__init__"))
  sub : PySem.W.subIn K (.ref C) (.type "ValueError") = some true
  opq : PySem.W.nsIn K cStatics "thirdparty.any" = some none
  nosup : PySem.W.nsIn K mainGlobals "super" = some none
  top : (prog.main.scope.names.lookup ("super" : Str)).isSome = false
  nofld : PySem.W.findIn K (.ref C) fld = some none

/-- the two lines -/
def errBody (msg pv fld : Str) (j : Nat) (p0 p1 p2 p3 p4 p5 p6 p7 p8 p9 : Pos) : List Stmt :=
  [.Expr (.Call (.Attribute (.Call (.Name "super" p0) [] [] p1) "__init__" p2) [.Constant (.str msg) j p3] [] p4) p5,
   .Assign [.Attribute (.Name "self" p6) fld p7] (.Name pv p8) p9]

/-- what the text of the two lines says -/
structure ErrT (qual pv fld msg : Str) (params : Arguments) (scope : Scope) (j : Nat) (p0 p1 p2 p3 p4 p5 p6 p7 p8 p9 : Pos) : Prop where
  bind : ∀ (kV doc pm : Value) (an : Option Addr) (cdv ct : Value) (cc : Addr) (x y : Value), bindArgs (ksFn "__init__" qual params (errBody msg pv fld j p0 p1 p2 p3 p4 p5 p6 p7 p8 p9) scope .none kV doc pm an cdv ct cc) ⟨[x, y], []⟩ = pure [(("self" : Str), x), (pv, y)]
  ev : ∃ pl : Env → Sem Bool, ∀ env : Env, eval (.Call (.Attribute (.Call (.Name "super" p0) [] [] p1) "__init__" p2) [.Constant (.str msg) j p3] [] p4) env = (do
      let ov ← attributeBase (.Call (.Name "super" p0) [] [] p1) "__init__" env (eval (.Call (.Name "super" p0) [] [] p1) env)
      standAt p2.atName
      let (f, first) ← holding [ov] (getMethod ov "__init__" (pl env))
      callWith p4 f first (backTo p4 (starEach [.Constant (.str msg) j p3] env)) [])
  par : (params.posonlyargs ++ params.args).head?.map (·.arg) = some "self"
  k1 : scope.names.lookup ("self" : Str) = some .local
  k2 : scope.names.lookup pv = some .local
  k3 : scope.names.lookup ("super" : Str) = some .globalImplicit
  k4 : scope.names.lookup ("__class__" : Str) = some .free
  npv : pv ≠ "self"
  npd : (pv == ("__debug__" : Str)) = false
  cell : ∀ x ∈ scope.names, x.2 ≠ .cell
  co : scope.isCoroutine = false
  gen : scope.isGenerator = false
  kind : scope.kind = .function

section
variable {prog : Program} {w : World} {A : Around} {R : Result → Shared → Prop} {K : PySem.W.Frag} {mg mb : Str → Option Value} {C fI : Addr} {qual pv fld msg : Str} {params : Arguments} {scope : Scope} {j : Nat} {p0 p1 p2 p3 p4 p5 p6 p7 p8 p9 : Pos}
theorem err_init {s : Shared} {e t0 : Addr} {u : Value} (T : ErrC prog K C fI qual pv fld params (errBody msg pv fld j p0 p1 p2 p3 p4 p5 p6 p7 p8 p9) scope)
    (kin : K.In s.heap) (nsm : s.heap.Ns mainGlobals mg) (nsb : s.heap.Ns builtinsNs mb) (mbb : ∀ x : Str, x ≠ "__name__" → mb x = bootBuiltins x) (lim : s.heap.NoLimit) (dep : A.depth < recursionLimit)
    (he : s.heap.get? e = some (PySem.HandSPX.excO C t0)) (nK : K.lookup e = none)
    (bind : ∀ (kV doc pm : Value) (an : Option Addr) (cdv ct : Value) (cc : Addr) (x y : Value), bindArgs (ksFn "__init__" qual params (errBody msg pv fld j p0 p1 p2 p3 p4 p5 p6 p7 p8 p9) scope .none kV doc pm an cdv ct cc) ⟨[x, y], []⟩ = pure [(("self" : Str), x), (pv, y)])
    (pl : Env → Sem Bool) (hev : ∀ env : Env, eval (.Call (.Attribute (.Call (.Name "super" p0) [] [] p1) "__init__" p2) [.Constant (.str msg) j p3] [] p4) env = (do
      let ov ← attributeBase (.Call (.Name "super" p0) [] [] p1) "__init__" env (eval (.Call (.Name "super" p0) [] [] p1) env)
      standAt p2.atName
      let (f, first) ← holding [ov] (getMethod ov "__init__" (pl env))
      callWith p4 f first (backTo p4 (starEach [.Constant (.str msg) j p3] env)) []))
    (hpar : (params.posonlyargs ++ params.args).head?.map (·.arg) = some "self")
    (k1 : scope.names.lookup ("self" : Str) = some .local) (k2 : scope.names.lookup pv = some .local) (k3 : scope.names.lookup ("super" : Str) = some .globalImplicit) (k4 : scope.names.lookup ("__class__" : Str) = some .free)
    (npv : pv ≠ "self") (hpd : (pv == ("__debug__" : Str)) = false) (hcell : ∀ x ∈ scope.names, x.2 ≠ .cell) (hco : scope.isCoroutine = false) (hgen : scope.isGenerator = false) (hk : scope.kind = .function)
    (hq : ∀ h' t' dx, (∀ b o, b ≠ e → s.heap.get? b = some o → h'.get? b = some o) → s.heap.objs.size ≤ dx → dx ≠ e →
      (∃ t1 : Addr, h'.get? e = some ({ cls := .ref C, dict := some dx, data := .fields #[.ref t1, .none, .none, .none, .bool false, .none] } : Obj)) → h'.Ns1 dx (fun y => if y = fld then some u else none) →
      R (.ok (.ret .none)) { s with heap := h', toks := t' }) :
    codeAny (model prog w) A (.call (.ref fI) ⟨[.ref e, u], []⟩) R s := by
  obtain ⟨oc, kV, doc, pm, ct, an, od, cda, cc, osl, ccl, cl, cdd, cld, vs, ccs, csl, file, tf, lkF, code, lkC, hvs, hfile, lkCell⟩ := T.fun_
  obtain ⟨nm, q, N, bs, bm, sn, sub, ab, col, dd, c0, c1, c2, c3, c5, hC, hbm⟩ := T.cls.cls
  have hcl : PySem.W.clsIn K C = some { name := nm, bases := bs, mro := .ref C :: bm, ns := N, qualname := q, hasDict := true, slotNames := sn, subclasses := sub, abstract := ab, collection := col, hasDel := false } := by
    unfold PySem.W.clsIn
    rw [hC] <;> rfl
  obtain ⟨ar, har, hself⟩ : ∃ ar, (params.posonlyargs ++ params.args).head? = some ar ∧ ar.arg = "self" := by
    cases z : (params.posonlyargs ++ params.args).head? with
    | none => rw [z] at hpar; cases hpar
    | some ar => rw [z] at hpar; exact ⟨ar, rfl, Option.some.inj hpar⟩
  have eC : e ≠ C := fun z => by
    have z1 := kin _ _ hC
    rw [z, z1] at he
    cases he
  refine ks_codeAny_call_defAt (fd := ksFn "__init__" qual params (errBody msg pv fld j p0 p1 p2 p3 p4 p5 p6 p7 p8 p9) scope .none kV doc pm an (.ref cda) ct cc) (body := errBody msg pv fld j p0 p1 p2 p3 p4 p5 p6 p7 p8 p9) (binds := [(("self" : Str), .ref e), (pv, u)])
    dep (kin _ _ lkF) rfl lim (PySem.W.codeRec_of kin code) rfl (.of_eq (bind ..)) hcell (fun y hy => ?_) (fun h1 ns1 kp1 => ?_) hco hgen hk
  · rcases List.mem_cons.mp hy with z | z
    · rw [z]; exact k1
    · rcases List.mem_cons.mp z with z | z
      · rw [z]; exact k2
      · cases z
  have kin1 : K.In h1 := kin.keeps kp1
  obtain ⟨hp, g, d, t, os⟩ := s
  have hint : interactive (callEnv (ksFn "__init__" qual params (errBody msg pv fld j p0 p1 p2 p3 p4 p5 p6 p7 p8 p9) scope .none kV doc pm an (.ref cda) ct cc) hp.objs.size fI) = false := by
    unfold interactive
    simp [callEnv, newEnv, hk]
  refine ks_wpAt_execs_cons (ks_wpAt_Expr_any (ks_wpAt_MethodCall (ks_wpAt_super_base k3 k4 (by decide) rfl (kin1 _ _ lkF) rfl har rfl (kin1 _ _ lkC) rfl hvs hfile T.top ?_) (hev _)) hint)
  refine PySem.W.ks_loadName_global hk k3 (loadGlobal_builtin (nsm.keeps kp1) (PySem.W.mg_none_of kin nsm T.nosup) (nsb.keeps kp1) ((mbb _ (by decide +kernel)).trans (by decide +kernel)) ⟨rfl, ?_⟩)
  refine wpAny_loadName_free hk k4 rfl ⟨_, kin1 _ _ lkCell, rfl⟩ ?_
  rw [hself]
  refine wpAny_loadName_local hk k1 ns1 (v := .ref e) ?_ ?_
  · show List.lookup ("self" : Str) ([(("self" : Str), Value.ref e), (pv, u)] : List (Str × Value)).reverse = _
    simp [List.lookup, beq_eq_false_iff_ne.mpr (Ne.symm npv)]
  have he1 : h1.get? e = some (PySem.HandSPX.excO C t0) := kp1 _ _ he
  have hD1 := kin1 _ _ hC
  refine ks_wpAny_isType_cls hD1 rfl ⟨rfl, ?_⟩
  refine ks_wpAny_call_super hD1 rfl he1 rfl (fun c z => by cases z) (PySem.W.looks_mroIn kin1 T.self_) (fun h2 eso kp2 => ?_)
  have kin2 : K.In h2 := kin1.keeps kp2
  have he2 := kp2 _ _ he1
  have inst2 : PySem.W.InstAt h2 e (PySem.HandSPX.excO C t0) C none := ⟨he2, rfl, rfl, trivial⟩
  have sup := T.up
  unfold PySem.W.ks_superIn at sup
  rw [hcl] at sup
  refine PySem.W.kxs_getMethod PySem.W.kxs_ValueError eso (PySem.W.looks_opaque kin2 T.opq) (l₀ := Value.ref C :: bm) (fun A Q E s k q => wpAny_bind ((PySem.W.looks_clsIn kin2 hcl) A _ E s k (wpAny_pure q))) rfl kin2 sup (inst2.type.andThen (PySem.W.looks_subIn kin2 T.sub)) eC (by decide) ?_
  have ku := Heap.get?_push_size h2 (o := PySem.W.kxs_mw "ValueError.__init__" e) rfl
  have kp3 : ∀ b o, h2.get? b = some o → (h2.push (PySem.W.kxs_mw "ValueError.__init__" e)).get? b = some o := fun b o z => Heap.get?_push_of_some _ z
  refine PySem.W.kxs_callWith (i := "ValueError.__init__") (x := e) rfl (evalArgs_plain (Calls.spliced_cons (Calls.Constant_str (k := j) (pos := p3) (Calls.spliced_nil ⟨ku, ?_⟩))))
  have he3 := kp3 _ _ he2
  have hC3 := kp3 _ _ (kp2 _ _ hD1)
  refine wpAny_call (codeAny_of_tree ?_)
  show wpAny _ (Around.in1 _) (callAny (.ref h2.objs.size) ⟨[.str msg _], []⟩) _ _ _
  simp only [callAny]
  refine wpAny_bind (wpAny_load ku ?_)
  simp only [PySem.W.kxs_mw, show (Value.type "method-wrapper" == Value.type "method" || Value.type "method-wrapper" == Value.type "builtin_function_or_method" || Value.type "method-wrapper" == Value.type "method-wrapper") = true by decide, if_true]
  refine PySem.W.KFB.if_so (by decide) ?_
  refine wpAny_bind (PySem.W.check_bound_init PySem.F.excBase_ValueError.toExcCallFacts hC3 he3 rfl ?_)
  refine wpAny_bind (wpAny_pure (wpAny_pure ?_))
  refine ⟨plainId_quiet PySem.F.excBase_ValueError.init.plain _, codeAny_builtin PySem.F.excBase_ValueError.initEntry ?_⟩
  refine PySem.W.exc_init_tree (cls := .ref C) (t0 := t0) (dv := none) (c2 := .none) (c3 := .none) (b4 := .bool false) he3 (by show 1 ≤ sizeLine; rw [sizeLine_eq]; omega) fun h4 kp4 he4 _ => ?_
  have neF : hp.objs.size ≠ e := Nat.ne_of_gt (Heap.lt_size he)
  have kin4 : K.In h4 := fun b o z => kp4 b o (fun y => by
    rw [y, nK] at z
    cases z) (kp3 _ _ (kin2 b o z))
  have ns4 : h4.Ns hp.objs.size (fun y => ([(("self" : Str), Value.ref e), (pv, u)] : List (Str × Value)).reverse.lookup y) := by
    obtain ⟨o, es, ep, ho, r⟩ := ns1
    exact ⟨o, es, ep, kp4 _ _ neF (kp3 _ _ (kp2 _ _ ho)), r⟩
  refine ks_wpAt_execs_cons (ks_wpAt_Assign_Attr ?_)
  refine wpAt_of_wpAny (wpAny_Name ?_ hpd)
  refine wpAny_loadName_local hk k2 ns4 (v := u) ?_ ?_
  · show List.lookup pv ([(("self" : Str), Value.ref e), (pv, u)] : List (Str × Value)).reverse = _
    simp [List.lookup]
  refine wpAny_Name ?_ (by decide)
  refine wpAny_loadName_local hk k1 ns4 (v := .ref e) ?_ ?_
  · show List.lookup ("self" : Str) ([(("self" : Str), Value.ref e), (pv, u)] : List (Str × Value)).reverse = _
    simp [List.lookup, beq_eq_false_iff_ne.mpr (Ne.symm npv)]
  refine PySem.W.set_plain kin4 (ox := _) (od := none) ⟨he4, rfl, rfl, trivial⟩ T.cls.sa ?_
  refine PySem.HandSPX.exc_osa kin4 he4 hcl (show PySem.HandSPX.refsVE (.ref C :: bm) = true from hbm) rfl T.nofld (fun h5 tk5 dx kp5 dn dne hx hn => ?_)
  show _root_.PySem.wpAt _ _ _ (execs [] _) _ _ _
  refine wpAt_of_wpAny (wpAny_execs_nil (hq h5 tk5 dx (fun b o ne z => kp5 b o ne (kp4 b o ne (kp3 _ _ (kp2 _ _ (kp1 _ _ z))))) ?_ dne ⟨_, hx⟩ hn))
  obtain ⟨oL, _, _, hoL, _⟩ := ns4
  exact Nat.le_trans (Nat.le_of_lt (Heap.lt_size hoL)) dn
end

section
variable {X : Cx} {k : Nat} {C fI : Addr} {x qual pv fld msg : Str} {params : Arguments} {scope : Scope} {j : Nat} {p0 p1 p2 p3 p4 p5 p6 p7 p8 p9 p pos : Pos} {e : Expr} {es : List Expr} {ta : TA}
/-- the making of an own error: its reading -/
def tErr (C : Addr) (fld : Str) (ta : TA) : L2.St → Hp → XK → Prop := fun σ H Q => ta σ H fun vs H1 => ∃ v, vs = [v] ∧ ∀ (dx : Addr) (H2 : Hp), H1 dx = none → H2 dx = some (.xd [(fld, v)]) → (∀ b, b ≠ dx → H2 b = H1 b) → Q (.ref C) (some dx) H2
theorem pmk_err (T : ErrC X.prog X.K C fI qual pv fld params (errBody msg pv fld j p0 p1 p2 p3 p4 p5 p6 p7 p8 p9) scope) (TT : ErrT qual pv fld msg params scope j p0 p1 p2 p3 p4 p5 p6 p7 p8 p9)
    (hr : Room (k + 1) X.A) (hg : Gl X x) (hm : X.mg x = some (.ref C)) (ha : PA X (e :: es) ta)
    (hdb : (x == ("__debug__" : Str)) = false := by decide) (hs : starEach (e :: es) X.env = (false, eval e X.env) :: starEach es X.env := by rfl) (hpl : (backTo pos (starEach es X.env)).any (·.1) = false := by rfl) :
    PMk X (.Call (.Name x p) (e :: es) [] pos) (tErr C fld ta) := by
  intro pins s σ H Q I h
  obtain ⟨nm, q, N, bs, bm, sn, sub, ab, col, dd, c0, c1, c2, c3, c5, hC, hbm⟩ := T.cls.cls
  refine wpAny_Call_Name_kw (ld_glob I hg hm ?_ hdb)
  refine PySem.W.callWith_K (h₀ := X.base) I.ok.mod.kin T.cls.kC (thn (ha.run pos pins s σ H _ I h) fun us s1 ⟨vs, H1, I1, r1, q1⟩ => ⟨I1.kIn, ?_⟩) hs hpl
  obtain ⟨v, ev, q1⟩ := q1
  subst ev
  obtain ⟨u, eu, ru⟩ := vals1 r1
  subst eu
  show wpAny _ _ (call (.ref C) [u]) _ _ _
  have mod := I1.mod
  obtain ⟨mb, nsb0, mbb⟩ := mod.blt
  have nsm := mod.glob.keeps I1.bk
  have nsb := nsb0.keeps I1.bk
  have lim := I1.nolimit
  have kin := I1.kIn
  have bare := I1.bare
  have fresh : ∀ {b : Addr}, s1.heap.objs.size ≤ b → H1 b = none := fun hb => I1.hok.fresh hb
  obtain ⟨hp, g, dr, tk, os⟩ := s1
  have kk : ∀ b o, hp.get? b = some o → ((hp.push (PySem.W.kdv_tup [u])).push (PySem.HandSPX.excO C hp.objs.size)).get? b = some o := fun b o z => Heap.get?_push_of_some _ (Heap.get?_push_of_some _ z)
  have hget : ((hp.push (PySem.W.kdv_tup [u])).push (PySem.HandSPX.excO C hp.objs.size)).get? (hp.objs.size + 1) = some (PySem.HandSPX.excO C hp.objs.size) := by heap_get
  have nK : X.K.lookup (hp.objs.size + 1) = none := by
    cases z : X.K.lookup (hp.objs.size + 1) with
    | none => rfl
    | some o => exact absurd (Heap.lt_size (kin _ _ z)) (Nat.not_lt.mpr (Nat.le_succ _))
  refine wpAny_call (PySem.HandSPX.call_own F.excBase_ValueError (fun Y => PySem.HandSPX.refsVE_contains Y bm hbm) (kin _ _ hC) (PySem.W.looks_findIn kin T.ini) (fun self => PySem.W.bind_fn kin self T.fn) (by show 1 ≤ sizeLine; rw [sizeLine_eq]; omega)
    (err_init (mg := X.mg) (mb := mb) (t0 := hp.objs.size) (e := hp.objs.size + 1) (u := u) T (kin.keeps kk) (nsm.keeps kk) (nsb.keeps kk) mbb (lim.keeps kk) (hr.make C [u] []).depth hget nK TT.bind TT.ev.choose TT.ev.choose_spec TT.par TT.k1 TT.k2 TT.k3 TT.k4 TT.npv TT.npd TT.cell TT.co TT.gen TT.kind
      fun h' t' dx kp dn dne hx hn => ⟨rfl, ?_⟩))
  obtain ⟨t1, hx⟩ := hx
  have dn' : hp.objs.size ≤ dx := Nat.le_trans (by simp only [Heap.size_push]; omega) dn
  have ne_old : ∀ {b : Addr} {o : Obj}, hp.get? b = some o → b ≠ hp.objs.size + 1 := fun z => Nat.ne_of_lt (Nat.lt_succ_of_lt (Heap.lt_size z))
  obtain ⟨G, g1, g2⟩ := restrict h' fun b => decide (b ≠ hp.objs.size + 1)
  have gk : ∀ b, b ≠ hp.objs.size + 1 → G.get? b = h'.get? b := fun b hb => g1 b (decide_eq_true hb)
  have ge : G.get? (hp.objs.size + 1) = none := g2 _ (by simp)
  have J : Inv X pins σ (upd H1 dx (.xd [(fld, v)])) ⟨G, g, dr, t', os⟩ := I1.laid (h' := G) (a := dx) (o := .xd [(fld, v)]) (t' := t') (fun b o z => (gk b (ne_old z)).trans (kp b o (ne_old z) (kk b o z))) dn'
    ⟨_, hn.at fun o y => (gk dx dne).trans y, relO_put (fs := []) ru fun g => True.intro⟩
  have nd : H1 dx = none := fresh dn'
  have na : upd H1 dx (.xd [(fld, v)]) (hp.objs.size + 1) = none := by
    rw [upd_ne (Ne.symm dne)]
    exact fresh (Nat.le_succ _)
  refine ⟨hp.objs.size + 1, _, _, ⟨G, g, dr, t', os⟩, _, .ref C, some dx, rfl, J, fun b o z => ?_, ge, hx, ⟨rfl, rfl⟩, rfl, rfl, na, rfl, bare, raises_own T.cls.exC T.cls.tyC, q1 dx _ nd upd_same fun b nb => upd_ne nb⟩
  by_cases hb : b = hp.objs.size + 1
  · rw [hb, ge] at z
    cases z
  · exact (gk b hb).symm.trans z
end
end KG

set_option Elab.async false
set_option linter.all false
set_option maxRecDepth 100000
set_option maxHeartbeats 1000000
/-! KH: a lambda without parameters handed to a def of the text, where nothing is shown; the end of a law whose defs lay code objects. -/
namespace KG
open PySem PySem.Spec PySem.Calls PyProof.Rows L2 LamX

/-- the lambda: its names, no parameters -/
structure LamT (sc scope : Scope) (params : Arguments) (body : Expr) : Prop where
  names : LamS sc scope
  bind : ∀ (q : Str) (cl : List (Str × Addr)) (pm cv ctv : Value), bindArgs (PySem.W.kla_fn "<lambda>" q params body scope cl pm cv ctv) ⟨[], []⟩ = pure []

/-- the frame of the def g that got it, entered from X at s -/
abbrev inDef (X : Cx) (N : List Str) (x : Str) (st : Stmt) (g : Addr) (cd : Value) (s : Shared) (H : Hp) : Cx := cxOf C8.CX0 X.prog X.w X.K X.mg X.base N x (defScope st) g cd X.A X.stack s H C8.E0
section
variable {X : Cx} {pins : List (Addr × Obj)} {σ : L2.St} {H HZ : Hp} {s : Shared} {k i : Nat} {N : List Str} {x a : Str} {st : Stmt} {g f c' : Addr} {cd pm ctv : Value} {params : Arguments} {body : Expr} {scope : Scope} {W : WX} {E : XK} {tb : TE} {p1 p2 : Pos}
/-- the lambda runs: from a frame over X's, at s1 -/
theorem lam_run {s1 : Shared} {env : Env} {A : Around} {Q : VK} (I : Inv X pins σ H s) (L : LamT X.env.scope scope params body) (e0 : Env0 X.prog X.w X.K X.mg X.base A (env :: X.stack) s1 HZ) (un : Un (frs X.stack) [] H HZ s.heap s1.heap) (lim : s1.heap.NoLimit)
    (rm : Room (k + 1) A) (gd : A.guards = some []) (fo : s1.heap.get? f = some (PySem.W.kla_obj "<lambda>" (X.env.qual ++ "<lambda>") params body scope (cloFrom X.env.cells scope.names []) pm c' ctv)) (co : ∃ (oc : Obj) (vs : Array Value) (t : Tok), s1.heap.get? c' = some oc ∧ oc.data = .fields vs ∧ vs[1]? = some (.str (X.env.qual ++ "<lambda>") t))
    (hbody : Room k (A.deeper (lamEnv X scope s1.heap.objs.size f c')) → (A.deeper (lamEnv X scope s1.heap.objs.size f c')).guards = some [] → PE (lamCx X A (env :: X.stack) s1 HZ E scope f c') body tb) (q : tb σ HZ Q) :
    codeAny (model X.prog X.w) A (.call (.ref f) ⟨[], []⟩) (CR (L2.CX X.prog X.w) (env :: X.stack) X.prog X.w HZ s1 Q E) s1 := by
  obtain ⟨oc, vs, t, g1, g2, g3⟩ := co
  refine PySem.W.kla_callFunE rm.depth fo rfl L.names.co L.names.gen rfl ⟨c', oc, vs, t, rfl, g1, g2, g3⟩ ?_
  rw [L.bind]
  refine wpAny_pure (wpAny_newFunctionEnv (fun y hy => (L.names.own y hy).2) (fun y hy => absurd hy List.not_mem_nil) (fun h2 ns2 sb2 => ⟨lim.fresh _ sb2, PySem.W.kla_codeExpr ?_⟩) L.names.kind)
  have kp : ∀ b o, s1.heap.get? b = some o → h2.get? b = some o := fun b o z => sb2.extBut b o (Nat.ne_of_lt (Heap.lt_size z)) (Heap.get?_push_of_some _ z)
  have J := lam_start2 (tk := s1.toks + ([] : List (Str × Value)).length) (E := E) (c' := c') (f := f) I L.names e0 rm.hd un ns2 kp
  exact wpAny_mono ((hbody (rm.deeper _) gd).run [] _ _ HZ Q J q) (fun v s' ⟨y, H', J', r, z⟩ => ⟨y, H', J'.os, J'.bare, J'.base, J'.hok, r, z⟩) fun _ _ z => z
/-- what stands at the name a is the lambda at f: a() -/
def Act (X : Cx) (N : List Str) (x : Str) (st : Stmt) (g : Addr) (cd : Value) (s : Shared) (H : Hp) (a : Str) (f c' : Addr) (tl : XK → Hp → VK → Prop) : Prop :=
  ∀ (W : WX) (pn : List (Addr × Obj)) (xe : Value → Shared → Prop) (p1 p2 : Pos), Takes ((inDef X N x st g cd s H).tr pn xe) W →
    PE ((inDef X N x st g cd s H).tr pn xe) (.Call (.Name a p1) [] [] p2) (fun σZ HZ Q => σZ[0]? = some (some (.ref f)) ∧ HZ c' = some (CodeO c' (X.env.qual ++ "<lambda>")) ∧ ∃ E : XK, (∀ cls d H', E cls d H' → W cls d σZ H') ∧ tl E HZ Q)
theorem act_of {t : XK → TE} (I : Inv X pins σ H s) (L : LamT X.env.scope scope params body) (fo : s.heap.get? f = some (PySem.W.kla_obj "<lambda>" (X.env.qual ++ "<lambda>") params body scope (cloFrom X.env.cells scope.names []) pm c' ctv)) (fn : H f = none) (ff : f ∉ frs X.stack)
    (rm : Room (k + 2) X.A) (gd : X.A.guards = some [])
    (hbody : ∀ (A : Around) (outer : List Env) (s : Shared) (H : Hp) (E : XK), Room k (A.deeper (lamEnv X scope s.heap.objs.size f c')) → (A.deeper (lamEnv X scope s.heap.objs.size f c')).guards = some [] → PE (lamCx X A outer s H E scope f c') body (t E))
    (hN : N[0]? = some a) (hv : Vis (defScope st) a) (hd : (a == ("__debug__" : Str)) = false) (hcd : (a == ("__classdict__" : Str)) = false) : Act X N x st g cd s H a f c' (fun E HZ Q => t E σ HZ Q) := by
  intro W pn xe p1 p2 tk
  refine ⟨fun pinsZ sZ σZ HZ Q IZ ⟨at0, hco, E, hW, hq⟩ => ?_⟩
  refine wpAny_Call_Name_kw (thn ((pe_var (pos := p1) (i := 0) hN hv hd hcd).run pinsZ sZ σZ HZ (fun v H1 => v = .ref f ∧ H1 = HZ) IZ ⟨.ref f, at0, rfl, rfl⟩) fun u s1 ⟨v, H1, I1, r1, ev, eH⟩ => ?_)
  subst ev
  subst eH
  obtain rfl : u = Value.ref f := r1
  have fo1 := I1.base.keep f _ fo fn ff (fun z => nomatch (show f ∈ ([] : List Addr) from z))
  have co1 := (I1.hok c' _ hco).1
  have rc : codeAny (model X.prog X.w) (X.A.deeper (envOfC x (defScope st) s.heap.objs.size g cd)) (.call (.ref f) ⟨[], []⟩) (CR (L2.CX X.prog X.w) (envOfC x (defScope st) s.heap.objs.size g cd :: X.stack) X.prog X.w H1 s1 Q E) s1 :=
    lam_run (X := X) (k := k) (Q := Q) (E := E) (tb := t E) (params := params) (body := body) (scope := scope) (pm := pm) (ctv := ctv) (c' := c') (f := f) I L I1.env0 I1.base I1.nolimit (rm.deeper _) gd fo1 co1 (fun r2 g2 => hbody _ _ _ _ _ r2 g2) hq
  refine PySem.W.callWith_F0 ⟨_, _, _, _, fo1⟩ (wpAny_call (codeAny_mono rc fun out s' ho => ?_))
  cases out with
  | error e => exact tk e s' (XE.of_call I1 (fun cls d H' h => hW cls d H' h) ho)
  | ok fl =>
    cases fl with
    | ret u => exact I1.after ho
    | next => exact False.elim ho
    | brk => exact False.elim ho
    | cont => exact False.elim ho
/-- the def that gets it: what it makes of the lambda's reading -/
def Gives (X : Cx) (x : Str) (st : Stmt) (a : Str) (TT : (XK → Hp → VK → Prop) → Hp → VK → Prop) : Prop :=
  ∃ N : List Str, FnScope N [a] (defScope st) ∧ N[0]? = some a ∧ Vis (defScope st) a ∧ ∀ (g : Addr) (cd : Value) (f c' : Addr) (s : Shared) (H : Hp) (Q : VK) (tl : XK → Hp → VK → Prop), Act X N x st g cd s H a f c' tl → H c' = some (CodeO c' (X.env.qual ++ "<lambda>")) → TT tl H Q →
    ∃ t, PSs (inDef X N x st g cd s H).nox (defBody st) t ∧ t { nx := fun _ H' => Q .non H', rt := Q } (L2.start N [.ref f]) H
/-- x(lambda: body) -/
theorem pe_lam {T : List (Addr × Str)} {TT : (XK → Hp → VK → Prop) → Hp → VK → Prop} {t : XK → TE} {c P : Addr} {p lpos pos : Pos} (D : DefAt X.K X.mg x st [a]) (G : Gives X x st a TT) (hg : Gl X x) (TB : TabB X.base X.mg c P) (hcode : X.env.code = .ref c)
    (hmT : (P, X.env.qual ++ "<lambda>") ∈ T) (hu : ∀ p ∈ T, p.1 = P → p.2 = X.env.qual ++ "<lambda>") (rm : Room (k + 2) X.A) (gd : X.A.guards = some []) (L : LamT X.env.scope scope params body) (hdef : defaultsOf params X.env = ([], []))
    (hbody : ∀ (A : Around) (outer : List Env) (s : Shared) (H : Hp) (E : XK) (f c' : Addr), Room k (A.deeper (lamEnv X scope s.heap.objs.size f c')) → (A.deeper (lamEnv X scope s.heap.objs.size f c')).guards = some [] → PE (lamCx X A outer s H E scope f c') body (t E))
    (hdb : (x == ("__debug__" : Str)) = false := by decide) (hd : (a == ("__debug__" : Str)) = false := by decide) (hcd : (a == ("__classdict__" : Str)) = false := by decide) : PE X (.Call (.Name x p) [.Lambda params body scope lpos] [] pos) (tLam T TT t) := by
  obtain ⟨g, fd, hm, F, b⟩ := D.ex
  obtain ⟨oc, od, kV, doc, pm, an, cdv, ct, osl, rfl, lk, hcg⟩ := F.ex
  obtain ⟨N, sc, hN, hv, G⟩ := G
  refine ⟨fun pins s σ H Q I ⟨hT, h⟩ => wpAny_Call_Name_kw (ld_glob I hg hm (PySem.W.callWith_K (h₀ := X.base) I.ok.mod.kin F.kp ?_ (by rfl) (by rfl)) hdb)⟩
  show wpAny _ _ (spliced ((false, eval (.Lambda params body scope lpos) X.env) :: backTo pos (starEach [] X.env))) _ _ s
  refine spliced_cons (lam_make2 I TB hcode hmT hu hT hdef (L.names.has I.ok) fun f c' pm' ctv H1 s' I1 eN T1 fo fn ff hco => spliced_nil ⟨I1.kIn, ?_⟩)
  refine wpAny_call (codeAny_mono (run_ofS (k := k + 1) (N := N) (ps := [a]) (us := [.ref f]) (vs := [.ref f]) (E := C8.E0) (CX := C8.CX0) (Q := Q) (H := H1) (outer := X.stack) (args := ⟨[.ref f], []⟩) lk hcg sc rm I1.env0 (b s' [.ref f] I1.kIn rfl) (.cons rfl .nil) rfl fun rm2 => ?_) fun out s2 ho => ?_)
  · obtain ⟨tt, h1, h2⟩ := G g cdv f c' s' H1 Q (fun E HZ Q => t E σ HZ Q) (act_of (k := k) I1 L fo fn ff rm gd (fun A outer s H E r2 g2 => hbody A outer s H E f c' r2 g2) hN hv hd hcd) hco (h H1 eN T1)
    exact ⟨tt, h1.nox, h2⟩
  · cases out with
    | error e => exact (show False from ho).elim
    | ok fl =>
      cases fl with
      | ret u => exact I1.after ho
      | next => exact False.elim ho
      | brk => exact False.elim ho
      | cont => exact False.elim ho
end
end KG

set_option Elab.async false
set_option linter.all false
set_option maxRecDepth 100000
set_option maxHeartbeats 1000000
/-! KT: the end of a law over promises where nothing is shown, the tables of code objects of its defs known. -/
namespace KG
open PySem PySem.Spec PySem.Calls PyProof.Rows L2 LamX

/-- the abstract heap at the start: the tables, the script -/
def H0 (K : PySem.W.Frag) (T : List Addr) (a : Addr) (vs : List Value) (ns : List Int) : Hp := fun b =>
  if b ∈ T then some (.tbl #[]) else if b = a ∧ K.lookup a = none then some (.frz { cls := .type "list", data := .seq vs.toArray } (.lst (ns.map V.int))) else none
section
variable {K : PySem.W.Frag} {T : List Addr} {a : Addr} {vs : List Value} {ns : List Int}
theorem H0_tab {b : Addr} (h : b ∈ T) : H0 K T a vs ns b = some (.tbl #[]) := if_pos h
theorem H0_a (h : a ∉ T) (hk : K.lookup a = none) : H0 K T a vs ns a = some (.frz { cls := .type "list", data := .seq vs.toArray } (.lst (ns.map V.int))) := (if_neg h).trans (if_pos ⟨rfl, hk⟩)
theorem H0_some {b : Addr} {u : HO} (h : H0 K T a vs ns b = some u) : (b ∈ T ∧ u = .tbl #[]) ∨ (b ∉ T ∧ b = a ∧ K.lookup a = none ∧ u = .frz { cls := .type "list", data := .seq vs.toArray } (.lst (ns.map V.int))) := by
  by_cases h1 : b ∈ T
  · rw [H0_tab h1] at h
    exact .inl ⟨h1, (Option.some.inj h).symm⟩
  · by_cases h2 : b = a ∧ K.lookup a = none
    · have e := ((if_neg h1).trans (if_pos h2)).symm.trans h
      exact .inr ⟨h1, h2.1, h2.2, (Option.some.inj e).symm⟩
    · have e := ((if_neg h1).trans (if_neg h2)).symm.trans h
      cases e
end

theorem law_gdT {P : Program} {w : World} {K : PySem.W.Frag} {mg mb : Str → Option Value} {CX : CXT} {k : Nat} {fa a : Addr} {cs : List (Addr × Addr)} {fd : FuncData} {x : Str} {sp : Sp} {s1 : Shared} {vs : List Value} {ns : List Int}
    (kin : K.In s1.heap) (nsm : s1.heap.Ns mainGlobals mg) (nsb : s1.heap.Ns builtinsNs mb) (mbb : ∀ x : Str, x ≠ "__name__" → mb x = bootBuiltins x) (lim : s1.heap.NoLimit) (nog : s1.gens = #[])
    (tab : ∀ p ∈ cs, s1.heap.get? p.2 = some { cls := .none, data := .fields #[] }) (notK : ∀ p ∈ cs, K.lookup p.2 = none) (code : ∀ p ∈ cs, PySem.W.CodeHd s1.heap p.1 p.2)
    (bmain : ∃ (bm : Addr) (ob : Obj), mg "__builtins__" = some (.ref bm) ∧ bm ≠ builtinsNs ∧ s1.heap.get? bm = some ob ∧ ob.cls = .type "module" ∧ ob.dict = some builtinsNs ∧ ob.data = .plain)
    (atA : s1.heap.get? a = some { cls := .type "list", data := .seq vs.toArray }) (isn : IntsAre vs ns) (small : ns.length ≤ sizeLine) (rm : Room k callerA)
    (F : ∀ base : Heap, K.In base → base.Ns mainGlobals mg → (∀ p ∈ cs, TabB base mg p.1 p.2) → Gd P w K mg base CX k fa fd [x] sp) (bt : ∀ (s : Shared) (u : Value), BindsTo s fd ⟨[u], []⟩ [(x, u)])
    (start_ : ∀ H : Hp, (∀ p ∈ cs, H p.2 = some (.tbl #[])) → SqL K H a (ns.map V.int) → sp [.ref a] H (fun v _ => v = .bl true) fun _ _ _ => False)
    (quiet : ∀ H e s', CX [] H s1 (fun _ _ _ => False) e s' → False) :
    codeAny (model P w) callerA (.call (.ref fa) ⟨[.ref a], []⟩) (fun r s' => r = .ok (.ret (.bool true)) ∧ OldK s1.heap s'.heap ∧ s'.os = s1.os ∧ AllBare s'.gens) s1 := by
  have rv := vals_ints isn
  have inT : ∀ p ∈ cs, p.2 ∈ cs.map (·.2) := fun p hp => List.mem_map_of_mem hp
  have ofT : ∀ b ∈ cs.map (·.2), ∃ p ∈ cs, p.2 = b := fun b hb => List.mem_map.mp hb
  have emp : ∀ b ∈ cs.map (·.2), s1.heap.get? b = some { cls := .none, data := .fields #[] } := fun b hb => by
    obtain ⟨p, hp, e⟩ := ofT b hb
    exact e ▸ tab p hp
  have aT : a ∉ cs.map (·.2) := fun z => by
    have y := emp a z
    rw [atA] at y
    exact nomatch congrArg Obj.data (Option.some.inj y)
  -- what is no table and no list is not tracked
  have plain : ∀ {b : Addr} {o : Obj}, s1.heap.get? b = some o → o.data ≠ .fields #[] → (∀ its n, o.data ≠ .seq its n) → H0 K (cs.map (·.2)) a vs ns b = none := fun {b o} e n1 n2 => by
    cases z : H0 K (cs.map (·.2)) a vs ns b with
    | none => rfl
    | some u =>
      rcases H0_some z with ⟨y, _⟩ | ⟨_, y, _⟩
      · rw [emp b y] at e
        cases e
        exact (n1 rfl).elim
      · rw [y, atA] at e
        cases e
        exact (n2 _ _ rfl).elim
  have ofK : ∀ {b : Addr} {o : Obj}, K.lookup b = some o → H0 K (cs.map (·.2)) a vs ns b = none := fun {b o} e => by
    cases z : H0 K (cs.map (·.2)) a vs ns b with
    | none => rfl
    | some u =>
      rcases H0_some z with ⟨y, _⟩ | ⟨_, y, n, _⟩
      · obtain ⟨p, hp, ep⟩ := ofT b y
        rw [← ep, notK p hp] at e
        cases e
      · rw [y, n] at e
        cases e
  have hok : HOk P w (H0 K (cs.map (·.2)) a vs ns) s1.heap := fun b u z => by
    rcases H0_some z with ⟨y, rfl⟩ | ⟨_, rfl, _, rfl⟩
    · exact emp b y
    · exact ⟨atA, by rw [List.length_map]; exact small, vs, _, rv, atA⟩
  have sq : SqL K (H0 K (cs.map (·.2)) a vs ns) a (ns.map V.int) := by
    cases hk : K.lookup a with
    | some o =>
      have e := kin a o hk
      rw [atA] at e
      cases e
      exact .inr ⟨_, vs.toArray, _, hk, rfl, rfl, rfl, by rw [List.size_toArray, isn.length]; exact small, by simpa using rv⟩
    | none => exact .inl (.inr ⟨_, H0_a aT hk⟩)
  have keepN : ∀ {b : Addr} {m : Str → Option Value}, s1.heap.Ns b m → (hidT s1.heap (H0 K (cs.map (·.2)) a vs ns)).Ns b m := fun {b m} ⟨o, es, ep, e, d, r⟩ =>
    ⟨o, es, ep, hidT_get e (plain e (by rw [d]; exact nofun) (by rw [d]; exact nofun)), d, r⟩
  have kinH : K.In (hidT s1.heap (H0 K (cs.map (·.2)) a vs ns)) := fun b o e => hidT_get (kin b o e) (ofK e)
  have mod : Mod K mg (hidT s1.heap (H0 K (cs.map (·.2)) a vs ns)) := ⟨kinH, keepN nsm, ⟨mb, keepN nsb, mbb⟩, lim.elim fun mc h => ⟨mc, keepN h.1, h.2⟩⟩
  have tb : ∀ p ∈ cs, TabB (hidT s1.heap (H0 K (cs.map (·.2)) a vs ns)) mg p.1 p.2 := fun p hp => by
    obtain ⟨o, us, file, tf, flags, tg, inF, text, tt, e1, r1, r2, r3, rr⟩ := code p hp
    obtain ⟨bm, ob, b1, b2, b3, b4, b5, b6⟩ := bmain
    have other : ∀ {q : Addr}, q ≠ bm → True := fun _ => trivial
    refine ⟨⟨o, us, file, tf, flags, tg, inF, text, tt, hidT_get e1 (plain e1 (fun z => ?_) (by rw [r2]; exact nofun)), r1, r2, r3, rr⟩, ⟨bm, ob, b1, b2, fun z => ?_, fun z => ?_, hidT_get b3 (plain b3 (by rw [b6]; exact nofun) (by rw [b6]; exact nofun)), b4, b5, b6⟩, fun z => ?_⟩
    · rw [r2] at z
      cases z
      simp at r3
    · obtain ⟨oM, _, _, eM, dM, _⟩ := nsm
      rw [z, eM] at b3
      cases b3
      rw [b6] at dM
      cases dM
    · rw [z, tab p hp] at b3
      cases b3
      cases b6
    · obtain ⟨oM, _, _, eM, dM, _⟩ := nsm
      rw [z, tab p hp] at eM
      cases eM
      cases dM
  have e0 : Env0 P w K mg (hidT s1.heap (H0 K (cs.map (·.2)) a vs ns)) callerA [] s1 (H0 K (cs.map (·.2)) a vs ns) := ⟨rfl, mod, fun b o e => of_hidT e, Nat.le_of_eq (hidT_size _ _), trivial, fun b hb => absurd (show b ∈ ([] : List Addr) from hb) List.not_mem_nil, hok, .of_eq nog⟩
  refine codeAny_mono ((F _ kinH (keepN nsm) tb).go callerA [] s1 _ ⟨[.ref a], []⟩ [.ref a] [.ref a] _ _ rm rfl e0 (bt s1 (.ref a)) (.cons rfl .nil) (start_ _ (fun p hp => H0_tab (inT p hp)) sq)) fun r s' h => ?_
  match r, h with
  | .error e, h => exact (quiet _ e s' h).elim
  | .ok (.ret u), h =>
    obtain ⟨v, H', os, bare, un, hok', r', q⟩ := h
    have q' : v = .bl true := q
    subst q'
    obtain rfl : u = Value.bool true := r'
    have same : ∀ b o, b ∉ cs.map (·.2) → s1.heap.get? b = some o → s'.heap.get? b = some o := fun b o nb e => by
      cases z : H0 K (cs.map (·.2)) a vs ns b with
      | none => exact un.keep b o e z (by intro y; cases y) (by simp)
      | some t =>
        rcases H0_some z with ⟨y, _⟩ | ⟨_, _, _, rfl⟩
        · exact (nb y).elim
        · obtain ⟨g1, _⟩ := hok b _ z
          obtain ⟨g2, _⟩ := hok' b _ (un.frzs b _ _ z)
          rw [e] at g1
          cases g1
          exact g2
    have grown : ∀ p ∈ cs, ∃ more : Array Value, s'.heap.get? p.2 = some { cls := .none, data := .fields more } := fun p hp => by
      obtain ⟨more, z⟩ := un.tbls p.2 #[] (H0_tab (inT p hp))
      exact ⟨_, hok' p.2 _ z⟩
    refine ⟨rfl, ⟨fun b o e => ?_, fun b o e => ?_⟩, os, bare⟩
    · by_cases hb : b ∈ cs.map (·.2)
      · obtain ⟨p, hp, ep⟩ := ofT b hb
        obtain ⟨more, hm⟩ := grown p hp
        subst ep
        rw [tab p hp] at e
        cases e
        exact .inr (.inl ⟨((code p hp).tab (tab p hp)).isCodeTable, rfl, #[], more, rfl, by rw [Array.empty_append]; exact hm⟩)
      · exact .inl (same b o hb e)
    · by_cases hb : b ∈ cs.map (·.2)
      · obtain ⟨p, hp, ep⟩ := ofT b hb
        obtain ⟨more, hm⟩ := grown p hp
        exact ⟨_, ep ▸ hm⟩
      · exact ⟨o, same b o hb e⟩

/-- what the start tells of the tables of the top's defs -/
abbrev Tabs0 (q : Program) (mg : Str → Option Value) (h : Heap) : Prop :=
  ∀ d ∈ recsOf q, ∃ (a : Addr) (o : Obj) (fd : FuncData) (c P : Addr), mg d.name = some (.ref a) ∧ h.get? a = some o ∧ o.data = .func fd ∧ fd.code = .ref c ∧ h.IsCode c P #[] ∧ h.TableAt c P #[]
/-- .. of one def that the written part knows: its code object c, the table at P -/
theorem tab0 {q : Program} {K : PySem.W.Frag} {mg : Str → Option Value} {h : Heap} {x : Str} {f c P : Addr} {oc : Value} {od : Option Addr} {fd : FuncData} {sl : Array (Option Value)} (X : K.In h) (t : Tabs0 q mg h) (hr : ((recsOf q).any fun d => d.name == x) = true) (hm : mg x = some (.ref f))
    (lk : K.lookup f = some ⟨oc, od, .func fd, sl⟩) (hc : fd.code = .ref c) (hP : PySem.W.codeHdIn K c P = true) : h.get? P = some { cls := .none, data := .fields #[] } ∧ PySem.W.CodeHd h c P := by
  obtain ⟨d, hd, e⟩ := List.any_eq_true.mp hr
  obtain ⟨a', o', fd', c', P', h1, h2, h3, h4, h5, h6⟩ := t d hd
  rw [beq_iff_eq.mp e, hm] at h1
  cases h1
  rw [X _ _ lk] at h2
  cases h2
  cases h3
  rw [hc] at h4
  cases h4
  have hd1 := PySem.W.codeHd_of_K X hP
  obtain ⟨o, us, file, tf, flags, tg, inF, text, tt, e1, r1, r2, r3, rr⟩ := id hd1
  obtain ⟨⟨oc2, vc, g1, g2, g3, g4⟩, g5⟩ := h6
  rw [e1] at g1
  cases g1
  rw [r2] at g3
  cases g3
  rw [r3] at g4
  cases g4
  exact ⟨g5, hd1⟩
theorem walk_gdT {l : PySem.W.OpenLaw} {n k : Nat} {q : Program} {loose : List Str} {XP : (Str → Option Value) → Heap → Prop} {YP : World → Heap → Prop} {d : DefRec} {K : Params → PySem.W.Frag} {CX : CXT} {x : Str}
    (most : l.most = some n) (n2 : n ≤ sizeLine) (nod : d.params.defaults = []) (rm : Room k callerA)
    (hY : ∀ (w : World) (h : Heap), YP w h → (K w.params).In h)
    (F : ∀ (w : World) (mg : Str → Option Value) (fa : Addr) (h : Heap), YP w h → (K w.params).In h → h.Ns mainGlobals mg → mg d.name = some (.ref fa) → Tabs0 q mg h →
      ∃ (fd : FuncData) (cs : List (Addr × Addr)) (sp : Sp), (∀ p ∈ cs, h.get? p.2 = some { cls := .none, data := .fields #[] }) ∧ (∀ p ∈ cs, (K w.params).lookup p.2 = none) ∧ (∀ p ∈ cs, PySem.W.CodeHd h p.1 p.2) ∧ (∀ (s : Shared) (u : Value), BindsTo s fd ⟨[u], []⟩ [(x, u)]) ∧
        (∀ (H : Hp) (a : Addr) (ns : List Int), ns.length ≤ n → (∀ z ∈ ns, Builtin.Int.intBits z ≤ 1048576) → (∀ p ∈ cs, H p.2 = some (.tbl #[])) → SqL (K w.params) H a (ns.map V.int) → sp [.ref a] H (fun v _ => v = .bl true) fun _ _ _ => False) ∧
        ∀ base : Heap, (K w.params).In base → base.Ns mainGlobals mg → (∀ p ∈ cs, TabB base mg p.1 p.2) → Gd l.prog w (K w.params) mg base CX k fa fd [x] sp)
    (quiet : ∀ (H : Hp) (s : Shared) (e : Value) (s' : Shared), CX [] H s (fun _ _ _ => False) e s' → False) :
    PySem.W.WalkO q loose XP YP l.row.toRowW d [] (fun f vs => PySem.call f vs) := by
  refine Att.attach_callB most nod fun w s0 s1 mg mb fa o pm cd doc a vs ns G Y ho hd hcd hmg hobj hints hlen hbits hg => ?_
  have kin := hY w _ Y
  obtain ⟨fd, cs, sp, t1, t2, t3, hb, st, hF⟩ := F w mg fa _ Y kin G.T.g hmg G.T.tab
  exact law_gdT kin G.T.g G.T.b G.T.builtins G.T.nolimit hg t1 t2 t3 G.T.bmain hobj hints (Nat.le_trans hlen n2) rm hF hb (fun H h1 h2 => st H a ns hlen hbits h1 h2) fun H e s' => quiet H s1 e s'
end KG

set_option Elab.async false
set_option linter.all false
set_option maxRecDepth 100000
set_option maxHeartbeats 1000000
/-! KA: data of any kind, {} among them: repr, in a tuple of the written part. -/
namespace KG
open PySem PySem.Spec PySem.Calls PyProof.Rows L2

/-- x is the data d -/
def Da (H : Hp) (x : V) (d : PyData) : Prop := ∀ (X : Cx) (pins : List (Addr × Obj)) (σ : L2.St) (s : Shared) (u : Value), Inv X pins σ H s → RelV x u → ∃ as, Reads s.heap u d as
/-- .. none of its lists and dicts the table of modules -/
def Dn (H : Hp) (x : V) (d : PyData) : Prop := ∀ (X : Cx) (pins : List (Addr × Obj)) (σ : L2.St) (s : Shared) (u : Value), Inv X pins σ H s → RelV x u → ∃ as, Reads s.heap u d as ∧ sysModules ∉ as
inductive DaAll (H : Hp) : List V → List PyData → Prop
  | nil : DaAll H [] []
  | cons {x : V} {xs : List V} {d : PyData} {ds : List PyData} : Da H x d → DaAll H xs ds → DaAll H (x :: xs) (d :: ds)
section
variable {H : Hp} {x : V} {d : PyData}
theorem Dn.da (h : Dn H x d) : Da H x d := fun X pins σ s u I r => by
  obtain ⟨as, a, _⟩ := h X pins σ s u I r
  exact ⟨as, a⟩
theorem Dn.str (z : Str) : Dn H (.str z) (.str z) := fun X pins σ s u I r => by obtain ⟨t, rfl⟩ := r; exact ⟨[], .str z t, List.not_mem_nil⟩
theorem Da.non : Da H .non .none := fun X pins σ s u I r => by cases r; exact ⟨[], .none⟩
theorem Da.bl (b : Bool) : Da H (.bl b) (.bool b) := fun X pins σ s u I r => by cases r; exact ⟨[], .bool b⟩
theorem Da.int (i : Int) : Da H (.int i) (.int i) := fun X pins σ s u I r => by obtain ⟨t, rfl⟩ := r; exact ⟨[], .int i t⟩
theorem Da.str (z : Str) : Da H (.str z) (.str z) := (Dn.str z).da
theorem DaAll.reads : ∀ {xs : List V} {ds : List PyData} (_ : DaAll H xs ds) {X : Cx} {pins : List (Addr × Obj)} {σ : L2.St} {s : Shared} {us : List Value} (_ : Inv X pins σ H s) (_ : Vals xs us), ∃ as, ReadsAll s.heap us ds as
  | _, _, .nil, _, _, _, _, _, _, .nil => ⟨[], .nil⟩
  | _, _, .cons a t, X, pins, σ, s, _, I, .cons r rt => by
    obtain ⟨as, h1⟩ := a X pins σ s _ I r
    obtain ⟨bs, h3⟩ := t.reads I rt
    exact ⟨as ++ bs, .cons h1 h3⟩
theorem Da.lst {a : Addr} {xs : List V} {ds : List PyData} (h : H a = some (.lst xs)) (t : DaAll H xs ds) : Da H (.ref a) (.list ds) := fun X pins σ s u I r => by
  obtain rfl : u = Value.ref a := r
  obtain ⟨_, its, n, rv, ho⟩ := I.hok a _ h
  obtain ⟨as, h1⟩ := t.reads I rv
  exact ⟨a :: as, .list ho rfl rfl (by simpa using h1)⟩
theorem Da.tup {a : Addr} {xs : List V} {ds : List PyData} (h : H a = some (.tup xs)) (t : DaAll H xs ds) : Da H (.ref a) (.tuple ds) := fun X pins σ s u I r => by
  obtain rfl : u = Value.ref a := r
  obtain ⟨_, its, rv, ⟨o, ho, hc, n, hd⟩⟩ := I.hok a _ h
  obtain ⟨as, h1⟩ := t.reads I rv
  exact ⟨as, .tuple ho hc hd (by simpa using h1)⟩
/-- a list of two, beside the table of modules -/
theorem Dn.two {a : Addr} {z : Str} (h : H a = some (.lst [.str z, x])) (na : a ≠ sysModules) (t : Dn H x d) : Dn H (.ref a) (.list [.str z, d]) := fun X pins σ s u I r => by
  obtain rfl : u = Value.ref a := r
  obtain ⟨_, its, n, rv, ho⟩ := I.hok a _ h
  cases rv with
  | cons r1 rt =>
    obtain ⟨k, rfl⟩ := r1
    cases rt with
    | cons r2 rt =>
      cases rt
      obtain ⟨as, h1, h2⟩ := t X pins σ s _ I r2
      refine ⟨a :: ([] ++ (as ++ [])), .list ho rfl rfl (.cons (.str z k) (.cons h1 .nil)), fun hm => ?_⟩
      rcases List.mem_cons.mp hm with e | e
      · exact na e.symm
      · simp at e
        exact h2 e
theorem Dn.dict0 {a : Addr} (h : H a = some (.dK [])) : Dn H (.ref a) (.dict []) := fun X pins σ s u I r => by
  obtain rfl : u = Value.ref a := r
  obtain ⟨_, ns, vs, kv, ob, es, ep, ho, hx, hd, _, hp, _⟩ := I.hok a _ h
  cases kv
  have e : es.toList = [] := by
    cases z : es.toList with
    | nil => rfl
    | cons y ys =>
      rw [z] at hp
      cases hp
  refine ⟨[a], .dict (kvs := []) (as := []) (bs := []) ho hx.1 hd (by rw [e]; exact .nil) (by rw [e]; exact .nil), fun hb => ?_⟩
  rw [← List.mem_singleton.mp hb] at ns
  simp at ns
theorem Da.dict0 {a : Addr} (h : H a = some (.dK [])) : Da H (.ref a) (.dict []) := (Dn.dict0 h).da
end

section
variable {X : Cx}
/-- repr(x), x any data -/
def rReprA : List V → Hp → VK → Prop := fun xs H Q => ∃ x d, xs = [x] ∧ Da H x d ∧ (d.hasDict = true → Dn H x d) ∧ d.showable = true ∧ d.depth ≤ 40 ∧ d.shown.length ≤ sizeLine ∧ Q (.str d.shown) H
theorem call_reprA {k : Nat} (rm : Room k X.A) (gd : X.A.guards = some []) : CallR X (.builtin "repr") rReprA := by
  intro pins s σ H xs us Q I r h
  obtain ⟨x, d, rfl, hd, hn, sh, dp, sz, q⟩ := h
  obtain ⟨u, rfl, r1⟩ := vals1 r
  have rdn : ∃ as, Reads s.heap u d as ∧ (d.hasDict = true → sysModules ∉ as) := by
    cases z : d.hasDict with
    | false =>
      obtain ⟨as, rd⟩ := hd X pins σ s u I r1
      exact ⟨as, rd, nofun⟩
    | true =>
      obtain ⟨as, rd, n⟩ := hn z X pins σ s u I r1
      exact ⟨as, rd, fun _ => n⟩
  obtain ⟨as, rd, ha⟩ := rdn
  have room := rm.units
  have fin : ∀ (s' : Shared) (tk : Tok), Inv X pins σ H s' → EP X pins σ Q (.str d.shown tk) s' := fun s' tk J => ⟨.str d.shown, H, J, ⟨tk, rfl⟩, q⟩
  have intsz : ∀ i : Int, d = .int i → i.natAbs.log2 < 1920 := fun i e => by
    subst e
    simpa [PyData.showable] using sh
  have big : ∀ {a : Addr}, u = .ref a → wpAny (model X.prog X.w) X.A (call (.builtin "repr") [u]) (EP X pins σ Q) X.xe s := fun {a} e => by
    subst e
    exact repr_of_reads' rd sh ha gd (by omega) (fun _ _ z => z) (fun h' u tk keep => fin _ _ (I.kept (t' := tk) keep)) sz
  cases rd with
  | none =>
    rw [PyData.shown_none] at q
    exact PySem.P.repr_of_none ⟨.str _, H, I.tok _, ⟨_, rfl⟩, q⟩
  | bool b =>
    rw [PyData.shown_bool] at q
    exact PySem.P.repr_of_bool ⟨.str _, H, I.tok _, ⟨_, rfl⟩, by cases b <;> exact q⟩
  | int i t =>
    rw [PyData.shown_int] at q
    exact PySem.P.repr_of_int (intsz i rfl) ⟨.str _, H, I.tok _, ⟨_, rfl⟩, q⟩
  | str z t =>
    rw [PyData.shown_str] at q sz
    exact PySem.P.repr_of_str ⟨.str _, H, I.tok _, ⟨_, rfl⟩, q⟩ sz
  | list h1 h2 h3 h4 => exact big rfl
  | tuple h1 h2 h3 h4 => exact big rfl
  | dict h1 h2 h3 h4 h5 => exact big rfl
/-- x not in t, t a tuple of texts of the written part, x any data -/
def rNotInA (K : PySem.W.Frag) : R2 := fun x y H Q => ∃ (p : Addr) (d : PyData) (zs : List Str), y = .ref p ∧ Da H x d ∧ d.canLay0 = true ∧ d.depth ≤ 40 ∧ KTup K p (zs.map V.str) ∧ zs.all PyData.strOk = true ∧ Q (.bl (!(zs.any fun z => PyData.eqv (.str z) d))) H
theorem strs_reads {h : Heap} : ∀ {zs : List Str} {us : List Value}, Vals (zs.map V.str) us → ReadsAll h us (zs.map PyData.str) []
  | [], _, .nil => .nil
  | z :: zs, _, .cons r t => by
    obtain ⟨k, rfl⟩ := r
    exact .cons (as := []) (bs := []) (.str z k) (strs_reads t)
theorem strs_lay : ∀ {zs : List Str}, zs.all PyData.strOk = true → PyData.canLayAll0 (zs.map PyData.str) = true
  | [], _ => by simp [PyData.canLayAll0]
  | z :: zs, h => by
    rw [List.all_cons, Bool.and_eq_true] at h
    simp [PyData.canLayAll0, PyData.canLay0, strs_lay h.2, h.1]
theorem op_notInA {k : Nat} (rm : Room k X.A) : OpR X (compareOp .NotIn) (rNotInA X.K) := by
  intro pins s σ H x y v u Q I rx ry h
  obtain ⟨p, d, zs, rfl, hd, lay, dp, ⟨o, its, n, lk, hc, hdt, _, rv⟩, zok, q⟩ := h
  obtain rfl : u = Value.ref p := ry
  obtain ⟨as, rd⟩ := hd X pins σ s v I rx
  have room := rm.units
  refine SeqAt.notIn_tuple_reads (.tuple (I.kIn _ _ lk) hc hdt (strs_reads rv)) rd (strs_lay zok) lay (Nat.lt_of_le_of_lt (Nat.add_le_add_left (Nat.min_le_right _ _) _) (by omega)) ⟨.bl _, H, I, rfl, ?_⟩
  rw [List.any_map]
  exact q
end
end KG

set_option Elab.async false
set_option linter.all false
set_option maxRecDepth 100000
set_option maxHeartbeats 1000000
/-! KV: list.count of flat items; what a caught error of a known class answers. -/
namespace KG
open PySem PySem.Spec PySem.Calls PyProof.Rows L2
section
variable {X : Cx}
def rCountF (K : PySem.W.Frag) : V → List V → Hp → VK → Prop := fun x xs H Q => ∃ (p : Addr) (ys : List V) (y : V), x = .ref p ∧ xs = [y] ∧ SqL K H p ys ∧ flatV y = true ∧ ys.all flatV = true ∧ Q (.int (ys.countP fun z => eqV z y : Nat)) H
theorem count_eqU {x : V} : ∀ {xs : List V} {us : List Value}, Vals xs us → xs.all flatV = true → us.countP (eqU x) = xs.countP fun y => eqV y x
  | _, _, .nil, _ => rfl
  | y :: xs, u :: us, .cons r t, f => by
    rw [List.all_cons, Bool.and_eq_true] at f
    rw [List.countP_cons, List.countP_cons, eqU_of r f.1, count_eqU t f.2]
theorem mt_countF : MtR X "list.count" (rCountF X.K) := by
  intro pins s σ H x xs v us Q I rx rxs h
  obtain ⟨p, ys, y, rfl, rfl, hs, fy, fys, q⟩ := h
  cases rx
  obtain ⟨u, rfl, ru⟩ := vals1 rxs
  obtain ⟨its, rv, ⟨⟨cls, dd, data, sl⟩, n, ho, hc, hdn, hd⟩, hlen⟩ := I.list hs
  simp only at hc hd
  subst hc hd
  refine call_meets PySem.F.slot_list_count ⟨_, ho, rfl⟩ PySem.F.entry_list_count (PySem.F.args_list_count_2 _ _)
    (SeqAt.list_countAt p its.toArray n dd sl u (eqU y)) ⟨ho, fun u' hu' => mem_eqAt ru fy rv fys u' (by simpa using hu'), ?_⟩
  refine ⟨.int (ys.countP fun z => eqV z y : Nat), H, I.tok _, ⟨s.toks, ?_⟩, q⟩
  show Value.int ((its.toArray.toList.countP (eqU y) : Nat) : Int) s.toks = _
  rw [show its.toArray.toList = its from rfl, count_eqU rv fys]
end
/-- a list display, its place beside the table of modules -/
def NewB (Q : VK) (xs : List V) (H : Hp) : Prop := xs.length ≤ sizeLine ∧ ∀ p, H p = none → p ≠ sysModules → Q (.ref p) (upd H p (.lst xs))
def tLstB (t : TA) : TE := fun σ H Q => t σ H fun xs H1 => NewB Q xs H1
theorem pe_lstB {X : Cx} {es : List Expr} {t : TA} {pos : Pos} (h : PA X es t) : PE X (.List es pos) (tLstB t) := by
  refine ⟨fun pins s σ H Q I hq => wpAny_List_spliced (thn (h.run pos pins s σ H _ I hq) fun us s1 ⟨xs, H1, I1, r, z, q⟩ => ⟨by rw [← r.length]; exact z, ?_⟩)⟩
  exact ⟨.ref s1.heap.objs.size, _, I1.laid (t' := s1.toks) (o := .lst xs) (fun b u e => Heap.get?_push_of_some _ e) (Nat.le_refl _) ⟨z, us, 0, r, Heap.get?_push_size _ rfl⟩, rfl, q _ (I1.hok.fresh (Nat.le_refl _)) (Nat.ne_of_gt I1.big)⟩
theorem w_lstB {σ : L2.St} {H : Hp} {Q : VK} {t : TA} (q : t σ H fun xs H1 => NewB Q xs H1) : tLstB t σ H Q := q
theorem newB {xs : List V} {H : Hp} {Q : VK} (l : xs.length ≤ sizeLine) (q : ∀ (p : Addr) (H' : Hp), H p = none → p ≠ sysModules → H' p = some (.lst xs) → Same H H' → Q (.ref p) H') : NewB Q xs H :=
  ⟨l, fun p np ns => q p _ np ns upd_same fun b u e => by rw [upd_ne (ne_of_none e np)]; exact e⟩
/-! ### steps -/
section
variable {σ : L2.St} {H : Hp} {Q : VK} {K : PySem.W.Frag}
/-- isinstance of a known error, its class and dict in the heap H -/
theorem w_isE {a D dd : Addr} {fs : List (Str × V)} {c : V} {cv : Value} {b : Bool} (ha : H a = some (ErrO (.ref D) (some dd) a)) (hd : H dd = some (.xd fs)) (C : ExcC K D) (hc : ∀ u, RelV c u → u = cv) (e : PySem.W.kitOne K (.ref D) cv = some b) (q : Q (.bl b) H) : rIsErr K [.ref a, c] H Q :=
  ⟨a, D, dd, fs, c, cv, b, rfl, ha, hd, C, hc, e, q⟩
theorem w_cat {l b : Addr} {xs zs ys : List V} (h1 : H l = some (.lst xs)) (h2 : H b = some (.lst zs)) (e : xs ++ zs = ys) (z : ys.length ≤ sizeLine) (q : ∀ (p : Addr) (H' : Hp), H p = none → H' p = some (.lst ys) → Same H H' → Q (.ref p) H') : rCat (.ref l) (.ref b) H Q :=
  ⟨l, b, xs, zs, rfl, rfl, h1, h2, by rw [← List.length_append, e]; exact z, fun p np => q p _ np (by rw [e]; exact upd_same) fun b u e => by rw [upd_ne (ne_of_none e np)]; exact e⟩
theorem w_bm {T : String} {r : V → List V → Hp → VK → Prop} {to : TE} {t : TA} (q : to σ H fun x H1 => tyV K T x H1 ∧ t σ H1 fun xs H2 => r x xs H2 Q) : tBM K T r to t σ H Q := q
theorem ty_list {p : Addr} {xs : List V} (h : H p = some (.lst xs)) : tyV K "list" (.ref p) H := .inl ⟨rfl, xs, SqL.of h⟩
theorem w_app {p : Addr} {xs ys : List V} {y : V} (h : H p = some (.lst xs)) (z : xs.length < sizeLine) (e : xs ++ [y] = ys) (q : ∀ H' : Hp, H' p = some (.lst ys) → (∀ b, b ≠ p → H' b = H b) → Q .non H') : rAppend (.ref p) [y] H Q :=
  ⟨p, xs, y, rfl, rfl, h, z, q _ (by rw [e]; exact upd_same) fun b nb => upd_ne nb⟩
theorem w_count {p : Addr} {ys : List V} {y : V} {n : Nat} (h : H p = some (.lst ys)) (f : flatV y = true) (fs : ys.all flatV = true) (e : (ys.countP fun z => eqV z y) = n) (q : Q (.int (n : Nat)) H) : rCountF K (.ref p) [y] H Q :=
  ⟨p, ys, y, rfl, rfl, SqL.of h, f, fs, by rw [e]; exact q⟩
theorem w_errf {te : TE} {f : Str} (q : te σ H fun x H1 => ∃ (a C dd : Addr) (fs : List (Str × V)) (v : V), x = .ref a ∧ H1 a = some (ErrO (.ref C) (some dd) a) ∧ H1 dd = some (.xd fs) ∧ XfC K C ∧ PySem.W.findIn K (.ref C) f = some none ∧ fs.lookup f = some v ∧ Q v H1) : tErrF K te f σ H Q := q
end
end KG

set_option Elab.async false
set_option linter.all false
set_option maxRecDepth 100000
set_option maxHeartbeats 1000000
/-! KW: methods that may raise; own errors by their def. -/
namespace KG
open PySem PySem.Spec PySem.Calls PyProof.Rows L2
section
variable {P : Program} {w : World} {K : PySem.W.Frag} {mg : Str → Option Value} {base : Heap} {k : Nat} {x m qual : Str} {st : Stmt} {ps N : List Str} {sp : Sp} {C f : Addr}
theorem MetAt.gdx (D : MetAt K C m qual st ps f) (sc : FnScope N ps (defScope st)) (len : ∀ vs H Q E, sp vs H Q E → vs.length = ps.length)
    (inner : ∀ (cdv : Value) (A : Around) (outer : List Env) (s : Shared) (H : Hp) (vs : List V) (Q : VK) (E : XK),
      Room k (A.deeper (envOfC qual (defScope st) s.heap.objs.size f cdv)) → (A.deeper (envOfC qual (defScope st) s.heap.objs.size f cdv)).guards = some [] → sp vs H Q E →
      ∃ t, PSs (cxOf (L2.CX P w) P w K mg base N qual (defScope st) f cdv A outer s H E) (defBody st) t ∧ t { nx := fun _ H' => Q .non H', rt := Q } (start N vs) H) :
    ∃ fd, Meth K C m f ∧ Fun K m qual st f fd ∧ Binds K fd ps [] ∧ Gd P w K mg base (L2.CX P w) (k + 1) f fd ps sp := by
  obtain ⟨fd, a, F, b⟩ := D.ex
  exact ⟨fd, a, F, b, gdX F sc len inner⟩
end
/-- what a def that may raise lets out -/
theorem takes_cx {P : Program} {w : World} {K : PySem.W.Frag} {mg : Str → Option Value} {base : Heap} {N : List Str} {qual : Str} {sc : Scope} {f : Addr} {cd : Value} {A : Around} {outer : List Env} {s : Shared} {H : Hp} {E : XK} :
    Takes (cxOf (L2.CX P w) P w K mg base N qual sc f cd A outer s H E) (fun cls d _ H => E cls d H) := takes_of rfl rfl rfl rfl
theorem own_cx {P : Program} {w : World} {K : PySem.W.Frag} {mg : Str → Option Value} {base : Heap} {N : List Str} {qual : Str} {sc : Scope} {f : Addr} {cd : Value} {A : Around} {outer : List Env} {s : Shared} {H : Hp} {E : XK} :
    PassesOwn (model P w) (cxOf (L2.CX P w) P w K mg base N qual sc f cd A outer s H E).A (cxOf (L2.CX P w) P w K mg base N qual sc f cd A outer s H E).env (cxOf (L2.CX P w) P w K mg base N qual sc f cd A outer s H E).xe := passes_of rfl
/-- .. the lambda's frame -/
theorem takes_lam {X : Cx} {A : Around} {outer : List Env} {s : Shared} {H : Hp} {E : XK} {scope : Scope} {f c' : Addr} : Takes (LamX.lamCx X A outer s H E scope f c') (fun cls d _ H => E cls d H) := takes_of rfl rfl rfl rfl
theorem pass_lam {X : Cx} {A : Around} {outer : List Env} {s : Shared} {H : Hp} {E : XK} {scope : Scope} {f c' : Addr} : Passes (L2.CX X.prog X.w) (LamX.lamCx X A outer s H E scope f c') E := passes_call takes_lam fun _ _ _ _ h => h
theorem pass_cx {P : Program} {w : World} {K : PySem.W.Frag} {mg : Str → Option Value} {base : Heap} {N : List Str} {qual : Str} {sc : Scope} {f : Addr} {cd : Value} {A : Around} {outer : List Env} {s : Shared} {H : Hp} {E : XK} :
    Passes (L2.CX P w) (cxOf (L2.CX P w) P w K mg base N qual sc f cd A outer s H E) E := passes_call takes_cx fun _ _ _ _ h => h
/-- the def st is an error's __init__ of two lines -/
def ErrX (st : Stmt) (qual pv fld : Str) : Prop := ∃ (msg : Str) (j : Nat) (p0 p1 p2 p3 p4 p5 p6 p7 p8 p9 : Pos), defBody st = errBody msg pv fld j p0 p1 p2 p3 p4 p5 p6 p7 p8 p9 ∧ ErrT qual pv fld msg (defArgs st) (defScope st) j p0 p1 p2 p3 p4 p5 p6 p7 p8 p9
theorem pmk_errX {X : Cx} {k : Nat} {C fI : Addr} {x qual pv fld : Str} {st : Stmt} {p pos : Pos} {e : Expr} {es : List Expr} {ta : TA} (T : ErrC X.prog X.K C fI qual pv fld (defArgs st) (defBody st) (defScope st)) (TT : ErrX st qual pv fld)
    (hr : Room (k + 1) X.A) (hg : Gl X x) (hm : X.mg x = some (.ref C)) (ha : PA X (e :: es) ta)
    (hdb : (x == ("__debug__" : Str)) = false := by decide) (hs : starEach (e :: es) X.env = (false, eval e X.env) :: starEach es X.env := by rfl) (hpl : (backTo pos (starEach es X.env)).any (·.1) = false := by rfl) :
    PMk X (.Call (.Name x p) (e :: es) [] pos) (tErr C fld ta) := by
  obtain ⟨msg, j, p0, p1, p2, p3, p4, p5, p6, p7, p8, p9, hb, TT⟩ := TT
  rw [hb] at T
  exact pmk_err T TT hr hg hm ha hdb hs hpl
end KG

set_option Elab.async false
set_option linter.all false
set_option maxRecDepth 100000
set_option maxHeartbeats 1000000
/-! KZ: a text beside a dict; not in a tuple of texts. -/
namespace KG
open PySem PySem.Spec PySem.Calls PyProof.Rows L2 SeqAt
theorem sub_str_dict : isSubtype (.type "str") (.type "dict") = pure false := by rw [isSubtype_type]; kernel_rfl
theorem sub_dict_str : isSubtype (.type "dict") (.type "str") = pure false := by rw [isSubtype_type]; kernel_rfl
theorem dict_declines (l : Addr) (es : Array DictEntry) (n : Nat) (dd : Option Addr) (sl : Array (Option Value)) (b : Str) (u : Tok) :
    Meets (Builtin.«dict.__eq__» ⟨[.ref l, .str b u], []⟩) (fun _ R s => s.heap.get? l = some { cls := .type "dict", dict := dd, data := .dict es n, slots := sl } ∧ R (.ok (.ret .notImplemented)) s) :=
  .of_wp fun prog w A R s h => by
    obtain ⟨hp, g, d, tk, os⟩ := s
    obtain ⟨hl, h⟩ := h
    have f1 := sub_str_dict
    wp_walk using wpAny_loadPart' hl
    exact ⟨_, rfl, h⟩
theorem str_declines (b : Str) (u : Tok) (l : Addr) (es : Array DictEntry) (n : Nat) (dd : Option Addr) (sl : Array (Option Value)) :
    Meets (Builtin.«str.__eq__» ⟨[.str b u, .ref l], []⟩) (fun _ R s => s.heap.get? l = some { cls := .type "dict", dict := dd, data := .dict es n, slots := sl } ∧ R (.ok (.ret .notImplemented)) s) :=
  .of_wp fun prog w A R s h => by
    obtain ⟨hp, g, d, tk, os⟩ := s
    obtain ⟨hl, h⟩ := h
    have f1 := sub_dict_str
    wp_walk using wpAny_loadPart' hl
    exact ⟨_, rfl, h⟩
theorem eqAt_str_dict {A : Around} {s : Shared} {l : Addr} {es : Array DictEntry} {n : Nat} {dd : Option Addr} {sl : Array (Option Value)} (b : Str) (u : Tok) (ho : s.heap.get? l = some { cls := .type "dict", dict := dd, data := .dict es n, slots := sl }) (hu : A.units < cLine) : EqAt A s (.str b u) (.ref l) false := fun prog w E Q h => by
  unfold eqBool
  refine wpAny_holding ?_
  refine wpAny_ite_split (fun hab => absurd (eq_of_beq hab) nofun) (fun _ => ?_)
  refine wpAny_bind (rc_eq_decline_or (k := false) (typeIs_str s b u) ⟨_, ho, rfl⟩ (by decide) sub_dict_str F.slot_str_eq F.slot_dict_eq_refl
    (fun _ hq => call_meets F.slot_str_eq (typeIs_str s b u) F.entry_str_eq (F.args_str_eq_2 _ _) (str_declines b u l es n dd sl) ⟨ho, hq⟩)
    (fun _ hq => call_meets F.slot_dict_eq_refl ⟨_, ho, rfl⟩ F.entry_dict_eq (F.args_dict_eq_2 _ _) (dict_declines l es n dd sl b u) ⟨ho, hq⟩)
    (fun _ hq => wpAny_of_eq (rfl : isSame (.str b u) (.ref l) = pure false) hq) (.inr hu) (wpAny_truthy_bool h))
section
variable {X : Cx}
/-- x not in t, t a tuple of texts of the written part, x any data, {} too -/
def rNotInB (K : PySem.W.Frag) : R2 := fun x y H Q => ∃ (p : Addr) (d : PyData) (zs : List Str), y = .ref p ∧ Da H x d ∧ (d.canLay0 = true ∨ d = .dict []) ∧ d.depth ≤ 40 ∧ KTup K p (zs.map V.str) ∧ zs.all PyData.strOk = true ∧ Q (.bl (!(zs.any fun z => PyData.eqv (.str z) d))) H
theorem strs_mem : ∀ {zs : List Str} {us : List Value}, Vals (zs.map V.str) us → ∀ u ∈ us, ∃ z t, u = Value.str z t
  | [], _, .nil => fun u h => nomatch h
  | z :: zs, _, .cons r t => fun u h => by
    rcases List.mem_cons.mp h with e | e
    · obtain ⟨k, rfl⟩ := r
      exact ⟨z, k, e⟩
    · exact strs_mem t u e
theorem op_notInB {k : Nat} (rm : Room k X.A) : OpR X (compareOp .NotIn) (rNotInB X.K) := by
  intro pins s σ H x y v u Q I rx ry h
  obtain ⟨p, d, zs, rfl, hd, lay, dp, kt, zok, q⟩ := h
  rcases lay with lay | rfl
  · exact op_notInA rm pins s σ H x _ v u Q I rx ry ⟨p, d, zs, rfl, hd, lay, dp, kt, zok, q⟩
  · obtain ⟨o, its, n, lk, hc, hdt, _, rv⟩ := kt
    obtain rfl : u = Value.ref p := ry
    obtain ⟨as, rd⟩ := hd X pins σ s v I rx
    have room := rm.units
    cases rd with
    | @dict a oo es nn kvs as bs h1 h2 h3 h4 h5 =>
      obtain ⟨oc, od, odt, osl⟩ := oo
      dsimp only at h2 h3
      subst h2 h3
      refine SeqAt.notIn_tupleAt (fun _ => false) ⟨_, I.kIn _ _ lk, hc, _, hdt⟩ (fun y hy => ?_) ⟨.bl _, H, I, rfl, ?_⟩
      · obtain ⟨z, t, rfl⟩ := strs_mem rv y (by simpa using hy)
        exact eqAt_str_dict z t h1 (by show X.A.units + 1 < cLine; omega)
      · have e1 : (its.any fun _ => false) = false := by
          rw [← Array.any_toList]
          exact List.any_eq_false.mpr fun _ _ => Bool.false_ne_true
        have e2 : (zs.any fun z => PyData.eqv (.str z) (.dict [])) = false := List.any_eq_false.mpr fun z _ => by simp [PyData.eqv]
        rw [e2] at q
        rw [e1]
        exact q
end
end KG

set_option Elab.async false
set_option linter.all false
set_option maxRecDepth 100000
set_option maxHeartbeats 1000000
/-! KO: operators of own objects beside whole numbers, calls of own objects, calls by keywords alone, defaults of methods, written dicts with whole numbers as keys. -/
namespace KG
open PySem PySem.Spec PySem.Calls PyProof.Rows L2
section
variable {X : Cx} {CX : CXT} {k : Nat} {f C : Addr} {fd : FuncData} {ps ks : List Str} {sp : Sp} {E : XK} {x : Str} {p pos : Pos} {e : Expr} {es : List Expr} {kws : List Keyword} {ta t tk : TA}
/-- o op i, o an own object, i a whole number -/
def rOwnI (C : Addr) (sp : Sp) (E : XK) : R2 := fun x y H Q => ∃ (a dx : Addr) (fs : List (Str × V)) (i : Int), x = .ref a ∧ H a = some (.ins C dx fs) ∧ y = .int i ∧ sp [.ref a, .int i] H Q E
/-- what the class has for an operator -/
structure OpAt (K : PySem.W.Frag) (C f : Addr) (op : Operator) : Prop where
  first : PySem.W.selfFirst K C = true
  own : PySem.W.findIn K (.ref C) (PySem.dunder op.info.2) = some (some (.ref f))
  fn : PySem.W.isFn K (.ref f) = true
  refl : ∃ rc, PySem.W.findIn K (.ref C) (dunderR op.info.2) = some rc ∧ (rc = none ∨ ∃ g : Addr, rc = some (.ref g))
  int1 : ∃ fo, PySem.W.findIn K (.type "int") (PySem.dunder op.info.2) = some fo
  int2 : ∃ ro, PySem.W.findIn K (.type "int") (dunderR op.info.2) = some ro
  sub : PySem.W.subIn K (.type "int") (.ref C) = some false
theorem op_ownI {op : Operator} (O : OpAt X.K C f op) (F : Gd X.prog X.w X.K X.mg X.base CX k f fd ps sp) (rm : Room k X.A) (gd : X.A.guards = some []) (hb : Binds X.K fd ps []) (hx : Passes CX X E) : OpR X (binaryOp op) (rOwnI C sp E) := by
  intro pins s σ H x y v u Q I rx ry h
  obtain ⟨a, dx, fs, i, rfl, ea, rfl, q⟩ := h
  obtain rfl : v = Value.ref a := rx
  obtain ⟨t, rfl⟩ := ry
  obtain ⟨mA, J, _⟩ := ins_get I.hok ea
  obtain ⟨od, J, _⟩ := J.look
  obtain ⟨m, fr⟩ := I.fr
  obtain ⟨rc, hr, hp⟩ := O.refl
  obtain ⟨fo, h1⟩ := O.int1
  obtain ⟨ro, h2⟩ := O.int2
  have r2 : Vals [V.ref a, .int i] [Value.ref a, .int i t] := .cons rfl (.cons ⟨t, rfl⟩ .nil)
  have bt := bind_pos (dvs := []) (vs := [V.ref a, .int i]) F hb .nil I.kIn r2 q
  refine PySem.W.ksp_binT fr I.ok.mod.kin J rfl O.first O.own O.fn hr hp h1 h2 O.sub ?_
  refine wpAny_mono (run_g (us := [.ref a, .int i t]) F rm gd hx I bt r2 q) (fun v s' hv => ?_) fun _ _ z => z
  have rv : ∃ z, RelV z v := let ⟨z, _, _, rz, _⟩ := hv; ⟨z, rz⟩
  exact rv.elim fun z rz => SlX.cmpback rz hv
theorem w_own {a dx : Addr} {fs : List (Str × V)} {i : Int} {H : Hp} {Q : VK} (h : H a = some (.ins C dx fs)) (q : sp [.ref a, .int i] H Q E) : rOwnI C sp E (.ref a) (.int i) H Q := ⟨a, dx, fs, i, rfl, h, rfl, q⟩
/-! ### o(e, ..), o an own object that a name holds -/
def tOwnC (C : Addr) (sp : Sp) (E : XK) (n : Nat) (ta : TA) : TE := fun σ H Q => ∃ a : Addr, σ[n]? = some (some (.ref a)) ∧ ta σ H fun vs H1 => ∃ dx fs, H1 a = some (.ins C dx fs) ∧ sp (.ref a :: vs) H1 Q E
theorem own_with {M : Model} {A : Around} {W : Value → Shared → Prop} {s : Shared} {x C : Addr} {K : PySem.W.Frag} {args : List (Bool × Sem Value)} {Q : Value → Shared → Prop} (plain : (args.any (·.1) || ([] : List (Option Str × Sem Value)).any (·.1.isNone)) = false)
    (h : wpAny M A (evalArgs (.ref x) true args []) (fun a s1 => (∃ ox od, PySem.W.InstAt s1.heap x ox C od ∧ ox.data = .plain) ∧ wpAny M A (call (.ref x) a.pos a.kw) Q W s1) W s) : wpAny M A (callWith pos (.ref x) [] args []) Q W s := by
  unfold callWith
  refine wpAny_bind (wpAny_holding (wpAny_mono h (fun a s1 ⟨⟨ox, od, J, hd⟩, g⟩ => wpAny_bind (wpAny_standAt ?_)) fun _ _ z => z))
  simp only [plain]
  refine wpAny_bind ((PySem.W.kco_keeper (M := M) J hd).here ?_)
  have behind : ∀ {t : Sem Value}, wpAny M A t Q W s1 → wpAny M A (t >>= fun r => holding [r] point >>= fun _ => pure r) Q W s1 := fun ht =>
    wpAny_bind (wpAny_mono ht (fun r s2 hr => wpAny_bind (wpAny_holding (wpAny_point (wpAny_pure hr)))) fun _ _ z => z)
  exact behind (wpAny_operateT g)
theorem pe_ownC {n : Nat} (O : PySem.W.findIn X.K (.ref C) "__call__" = some (some (.ref f))) (fn : PySem.W.isFn X.K (.ref f) = true) (fi : PySem.W.fnIn X.K f = true) (F : Gd X.prog X.w X.K X.mg X.base CX k f fd ps sp) (rm : Room k X.A) (gd : X.A.guards = some []) (hb : Binds X.K fd ps []) (hx : Passes CX X E)
    (hv : PE X (.Name x p) (tVar n)) (ha : PA X (e :: es) ta) (he : starEach (e :: es) X.env = (false, eval e X.env) :: starEach es X.env := by rfl) (hpl : (backTo pos (starEach es X.env)).any (·.1) = false := by rfl) :
    PE X (.Call (.Name x p) (e :: es) [] pos) (tOwnC C sp E n ta) := by
  refine ⟨fun pins s σ H Q I h => ?_⟩
  obtain ⟨a, ea, q⟩ := h
  refine wpAny_Call_Name_kw (wpAny_mono (hv.run pins s σ H (fun v H' => v = .ref a ∧ ta σ H' fun vs H1 => ∃ dx fs, H1 a = some (.ins C dx fs) ∧ sp (.ref a :: vs) H1 Q E) I ⟨_, ea, rfl, q⟩) (fun u s1 hu => ?_) fun _ _ z => z)
  obtain ⟨v, H1, I1, rv, ev, q1⟩ := hu
  subst ev
  obtain rfl : u = Value.ref a := rv
  show wpAny _ _ (callWith pos (.ref a) [] (backTo pos (starEach (e :: es) X.env)) []) _ _ _
  rw [he]
  refine own_with (K := X.K) (C := C) (by show ((false || (backTo pos (starEach es X.env)).any (·.1)) || false) = false; rw [hpl]; rfl) (evalArgs_plain ?_)
  have args := ha.run pos pins s1 σ H1 _ I1 q1
  rw [he] at args
  refine wpAny_mono args (fun us s2 hs => ?_) fun _ _ z => z
  obtain ⟨vs, H2, J, r, dx, fs, ea2, q2⟩ := hs
  obtain ⟨mA, Z, _⟩ := ins_get J.hok ea2
  obtain ⟨od, Z, zd⟩ := Z.look
  refine ⟨⟨_, od, Z, by first | exact zd | rfl⟩, wpAny_call (PySem.W.kco_code J.kIn Z (by first | exact zd | rfl) O fn fi ?_)⟩
  have r1 : Vals (V.ref a :: vs) (Value.ref a :: us) := .cons rfl r
  refine codeAny_mono (F.go X.A X.stack s2 H2 ⟨.ref a :: us, []⟩ _ _ _ E rm gd J.env0 (bind_pos (dvs := []) F hb .nil J.kIn r1 (by rw [List.append_nil]; exact q2)) (by rw [List.append_nil]; exact r1) q2) fun out s' hq => ?_
  match out, hq with
  | .error e, hq => exact hx pins σ H2 s2 e s' J hq
  | .ok (.ret u), hq => exact J.after hq
/-! ### f(k = v, ..) -/
def tCallK (j : Nat) (sp : Sp) (gV : List V → List V) (E : XK) (tk : TA) : TE := fun σ H Q => tk σ H fun zs H2 => zs.length = j ∧ sp (gV zs) H2 Q E
theorem pe_gcallK {g : List Value → List Value → List Value} {gV : List V → List V → List V} (F : Gd X.prog X.w X.K X.mg X.base CX k f fd ps sp) (rm : Room k X.A) (gd : X.A.guards = some []) (gl : Gl X x) (at_ : X.mg x = some (.ref f)) (kp : PySem.W.keepIn X.K (.ref f) = true)
    (hb : KBn X.K fd ps 0 ks g gV) (hx : Passes CX X E) (hkw : PK X kws tk) (hall : (backToKw pos (keywordEach kws X.env)).all (·.1.isSome) = true := by rfl) (hks : (backToKw pos (keywordEach kws X.env)).filterMap (·.1) = ks := by rfl)
    (hdb : (x == ("__debug__" : Str)) = false := by decide) (hpl : ((backTo pos (starEach [] X.env)).any (·.1) || (backToKw pos (keywordEach kws X.env)).any (·.1.isNone)) = false := by rfl) :
    PE X (.Call (.Name x p) [] kws pos) (tCallK ks.length sp (gV []) E tk) := by
  refine ⟨fun pins s σ H Q I h => wpAny_Call_Name_kw (ld_glob I gl at_ (PySem.W.callWith_KW0 (first := []) (h₀ := X.base) I.ok.mod.kin kp hall (thn (hkw.run pos pins s σ H _ I h) fun ws s2 ⟨zs, H2, J, rz, lz, q2⟩ => ⟨J.kIn, ?_⟩) hpl) hdb)⟩
  rw [hks]
  exact run_g (us := []) F rm gd hx J (hb.to s2 [] ws J.kIn rfl (rz.length.symm.trans lz)) (hb.rel .nil rz) q2
theorem w_callK {σ : L2.St} {H : Hp} {Q : VK} {j : Nat} {gV : List V → List V} (q : tk σ H fun zs H2 => zs.length = j ∧ sp (gV zs) H2 Q E) : tCallK j sp gV E tk σ H Q := q
end
/-! ### defaults of a method -/
section
variable {P : Program} {w : World} {K : PySem.W.Frag} {mg : Str → Option Value} {base : Heap} {k : Nat} {x qual : Str} {st : Stmt} {ps N : List Str} {sp : Sp} {f : Addr} {fd : FuncData} {dvs : List V} {kws : List (Str × V)}
theorem gdD (F : FunD K x qual (defArgs st) (defBody st) (defScope st) dvs kws f fd) (sc : FnScope N ps (defScope st)) (len : ∀ vs H Q E, sp vs H Q E → vs.length = ps.length)
    (inner : ∀ (cdv : Value) (A : Around) (outer : List Env) (s : Shared) (H : Hp) (vs : List V) (Q : VK) (E : XK),
      Room k (A.deeper (envOfC qual (defScope st) s.heap.objs.size f cdv)) → (A.deeper (envOfC qual (defScope st) s.heap.objs.size f cdv)).guards = some [] → sp vs H Q E →
      ∃ t, PSs (cxOf (L2.CX P w) P w K mg base N qual (defScope st) f cdv A outer s H E) (defBody st) t ∧ t { nx := fun _ H' => Q .non H', rt := Q } (start N vs) H) :
    Gd P w K mg base (L2.CX P w) (k + 1) f fd ps sp := by
  obtain ⟨oc, od, dV, kV, doc, pm, an, cdv, ct, osl, rfl, found, code, _, _⟩ := F.ex
  exact gd_of found code sc len fun A outer s H vs Q E rm gd q => inner cdv A outer s H vs Q E rm gd q
/-- a def of the text that may raise -/
theorem gdF {x : Str} (F : Fun K x qual st f fd) (sc : FnScope N ps (defScope st)) (len : ∀ vs H Q E, sp vs H Q E → vs.length = ps.length)
    (inner : ∀ (cdv : Value) (A : Around) (outer : List Env) (s : Shared) (H : Hp) (vs : List V) (Q : VK) (E : XK),
      Room k (A.deeper (envOfC qual (defScope st) s.heap.objs.size f cdv)) → (A.deeper (envOfC qual (defScope st) s.heap.objs.size f cdv)).guards = some [] → sp vs H Q E →
      ∃ t, PSs (cxOf (L2.CX P w) P w K mg base N qual (defScope st) f cdv A outer s H E) (defBody st) t ∧ t { nx := fun _ H' => Q .non H', rt := Q } (start N vs) H) :
    Gd P w K mg base (L2.CX P w) (k + 1) f fd ps sp := gdX F sc len inner
end
/-- the def x, promised sp, which may raise -/
def CalX (P : Program) (w : World) (K : PySem.W.Frag) (mg : Str → Option Value) (base : Heap) (j : Nat) (x : Str) (ps : List Str) (sp : Sp) : Prop :=
  ∃ f fd, mg x = some (.ref f) ∧ PySem.W.keepIn K (.ref f) = true ∧ Binds K fd ps [] ∧ (∃ (oc : Value) (od : Option Addr) (osl : Array (Option Value)), K.lookup f = some ⟨oc, od, .func fd, osl⟩) ∧ Gd P w K mg base (L2.CX P w) j f fd ps sp
/-- .. called by keywords alone -/
def CalK (P : Program) (w : World) (K : PySem.W.Frag) (mg : Str → Option Value) (base : Heap) (j : Nat) (x : Str) (ks : List Str) (is : List Nat) (sp : Sp) : Prop :=
  ∃ f fd ps, mg x = some (.ref f) ∧ PySem.W.keepIn K (.ref f) = true ∧ KBn K fd ps 0 ks (fun us ws => us ++ sel is ws) (fun vs zs => vs ++ sel is zs) ∧ Gd P w K mg base (L2.CX P w) j f fd ps sp
section
variable {P : Program} {w : World} {K : PySem.W.Frag} {mg : Str → Option Value} {base : Heap} {k j : Nat} {x : Str} {st : Stmt} {ps N ks : List Str} {is : List Nat} {sp : Sp}
theorem DefAt.calX (D : DefAt K mg x st ps) (sc : FnScope N ps (defScope st)) (len : ∀ vs H Q E, sp vs H Q E → vs.length = ps.length)
    (inner : ∀ (f : Addr) (cdv : Value) (A : Around) (outer : List Env) (s : Shared) (H : Hp) (vs : List V) (Q : VK) (E : XK),
      Room k (A.deeper (envOfC x (defScope st) s.heap.objs.size f cdv)) → (A.deeper (envOfC x (defScope st) s.heap.objs.size f cdv)).guards = some [] → sp vs H Q E →
      ∃ t, PSs (cxOf (L2.CX P w) P w K mg base N x (defScope st) f cdv A outer s H E) (defBody st) t ∧ t { nx := fun _ H' => Q .non H', rt := Q } (start N vs) H) :
    CalX P w K mg base (k + 1) x ps sp := by
  obtain ⟨f, fd, a, F, b⟩ := D.ex
  have G : Gd P w K mg base (L2.CX P w) (k + 1) f fd ps sp := gdX F sc len (inner f)
  obtain ⟨oc, od, kV, doc, pm, an, cdv, ct, osl, e, found, code⟩ := F.ex
  exact ⟨f, fd, a, F.kp, b, ⟨oc, od, osl, by rw [found, e]⟩, G⟩
theorem CalX.kw (c : CalX P w K mg base j x ps sp) (D : DefAt K mg x st ps) (h : BindOkK x x st ps 0 ks is) : CalK P w K mg base j x ks is sp := by
  obtain ⟨f, fd, a, kp, b, ⟨oc, od, osl, l⟩, G⟩ := c
  obtain ⟨f', fd', a', F, _⟩ := D.ex
  rw [a] at a'
  cases a'
  have e : fd' = fd := by
    obtain ⟨_, _, _, _, _, _, _, _, _, _, found, _⟩ := F.ex
    rw [l] at found
    cases found
    rfl
  rw [e] at F
  exact ⟨f, fd, ps, a, kp, kbn_of F 0 ks is h, G⟩
end
section
variable {X : Cx} {j k : Nat} {x : Str} {ps ks : List Str} {is : List Nat} {sp : Sp} {p pos : Pos} {e : Expr} {es : List Expr} {kws : List Keyword} {t tk : TA} {E : XK}
theorem pcX (c : CalX X.prog X.w X.K X.mg X.base j x ps sp) (hx : Passes (L2.CX X.prog X.w) X E) (rm : Room k X.A) (hk : j ≤ k) (gd : X.A.guards = some []) (gl : Gl X x) (ha : PA X (e :: es) t)
    (hdb : (x == ("__debug__" : Str)) = false := by decide) (he : starEach (e :: es) X.env = (false, eval e X.env) :: starEach es X.env := by rfl) (hpl : (backTo pos (starEach es X.env)).any (·.1) = false := by rfl) :
    PE X (.Call (.Name x p) (e :: es) [] pos) (tCall sp [] E t) := by
  obtain ⟨f, fd, a, kp, b, _, F⟩ := c
  exact pe_gcall F (rm.mono hk) gd gl a kp b .nil hx ha hdb he hpl
theorem pcK (c : CalK X.prog X.w X.K X.mg X.base j x ks is sp) (hx : Passes (L2.CX X.prog X.w) X E) (rm : Room k X.A) (hk : j ≤ k) (gd : X.A.guards = some []) (gl : Gl X x) (hkw : PK X kws tk)
    (hall : (backToKw pos (keywordEach kws X.env)).all (·.1.isSome) = true := by rfl) (hks : (backToKw pos (keywordEach kws X.env)).filterMap (·.1) = ks := by rfl)
    (hdb : (x == ("__debug__" : Str)) = false := by decide) (hpl : ((backTo pos (starEach [] X.env)).any (·.1) || (backToKw pos (keywordEach kws X.env)).any (·.1.isNone)) = false := by rfl) :
    PE X (.Call (.Name x p) [] kws pos) (tCallK ks.length sp (fun zs => [] ++ sel is zs) E tk) := by
  obtain ⟨f, fd, ps, a, kp, b, F⟩ := c
  exact pe_gcallK F (rm.mono hk) gd gl a kp b hx hkw hall hks hdb hpl
end
/-! ### a written dict with whole numbers as keys -/
inductive KEnts : List DictEntry → List (Int × V) → Prop
  | nil : KEnts [] []
  | cons {e : DictEntry} {i : Int} {v : V} {es : List DictEntry} {kvs : List (Int × V)} : (∃ t, e.key = .int i t) → e.hash = hashInt i → RelV v e.val → KEnts es kvs → KEnts (e :: es) ((i, v) :: kvs)
def KID (K : PySem.W.Frag) (p : Addr) (kvs : List (Int × V)) : Prop := (p == sysModules) = false ∧ ∃ (es : List DictEntry) (n : Nat), K.lookup p = some ⟨.type "dict", none, .dict es.toArray n, #[]⟩ ∧
  KEnts es kvs
theorem kid_find {es : List DictEntry} {kvs : List (Int × V)} (h : KEnts es kvs) (i : Int) :
    (kvs.lookup i = none ∧ findBy Value.isInt es.toArray i = none) ∨ ∃ v u, kvs.lookup i = some v ∧ findBy Value.isInt es.toArray i = some u ∧ RelV v u := by
  unfold findBy
  rw [List.find?_toArray]
  induction h with
  | nil => exact .inl ⟨rfl, rfl⟩
  | @cons e j v es kvs hk _ rv t ih =>
    obtain ⟨tk, ek⟩ := hk
    have e1 : Value.isInt i e.key = decide (j = i) := by
      rw [ek]
      show (j == i) = decide (j = i)
      by_cases h : j = i
      · rw [decide_eq_true h, h]; exact beq_self_eq_true i
      · rw [decide_eq_false h]; exact beq_eq_false_iff_ne.mpr h
    by_cases z : j = i
    · subst z
      refine .inr ⟨v, e.val, by simp [List.lookup_cons], ?_, rv⟩
      rw [List.find?_cons_of_pos (by rw [e1]; exact decide_eq_true rfl)]
      rfl
    · have n1 : (i == j) = false := beq_eq_false_iff_ne.mpr (Ne.symm z)
      rw [List.lookup_cons, n1, List.find?_cons_of_neg (by rw [e1]; simpa using z)]
      exact ih
section
variable {X : Cx}
theorem kid_map {p : Addr} {kvs : List (Int × V)} {h : Heap} (kin : X.K.In h) {es : List DictEntry} {n : Nat} (l : X.K.lookup p = some ⟨.type "dict", none, .dict es.toArray n, #[]⟩) (f : KEnts es kvs) :
    h.MapOf (intKind X.prog X.w) p fun i => findBy Value.isInt es.toArray i := by
  refine ⟨_, es.toArray, n, kin _ _ l, ⟨rfl, rfl, rfl⟩, rfl, fun e he => ?_, fun _ => rfl⟩
  have he : e ∈ es := by simpa using he
  revert he
  clear l
  intro he
  rename e ∈ es.toArray => old
  clear old
  induction f with
  | nil => cases he
  | cons a hh _ _ ih =>
    rcases List.mem_cons.mp he with z | z
    · subst z
      obtain ⟨t, ek⟩ := a
      exact ⟨_, by rw [ek]; exact intKind_is _ _ _ _, hh⟩
    · exact ih z
def rInKI (K : PySem.W.Frag) : R2 := fun x y H Q => ∃ (i : Int) (p : Addr) (kvs : List (Int × V)), x = .int i ∧ y = .ref p ∧ KID K p kvs ∧ Q (.bl (kvs.lookup i).isSome) H
theorem op_inKI : OpR X (compareOp .In) (rInKI X.K) := by
  intro pins s σ H x y v u Q I rx ry h
  obtain ⟨i, p, kvs, rfl, rfl, ⟨lo, es, n, l, f⟩, q⟩ := h
  obtain ⟨t, rfl⟩ := rx
  cases ry
  refine wpAny_in_of (intKind_is X.prog X.w i t) lo (kid_map I.kIn l f) ?_
  have e : (findBy Value.isInt es.toArray i).isSome = (kvs.lookup i).isSome := by
    rcases kid_find f i with ⟨a, b⟩ | ⟨_, _, a, b, _⟩ <;> rw [a, b] <;> rfl
  rw [e]
  exact ⟨.bl (kvs.lookup i).isSome, H, I.tok _, rfl, q⟩
def rIxKI (K : PySem.W.Frag) : R2 := fun x y H Q => ∃ (i : Int) (p : Addr) (kvs : List (Int × V)) (v : V), x = .ref p ∧ y = .int i ∧ KID K p kvs ∧ kvs.lookup i = some v ∧ Q v H
theorem ix_KI : IxR X (rIxKI X.K) := by
  intro value slice pins s σ H x y v u Q I rx ry h hs
  obtain ⟨i, p, kvs, z, rfl, rfl, ⟨lo, es, n, l, f⟩, hz, q⟩ := h
  obtain rfl : v = Value.ref p := rx
  obtain ⟨t, rfl⟩ := ry
  have hm := kid_map I.kIn l f
  rcases kid_find f i with ⟨a, _⟩ | ⟨v1, u1, a, b, r⟩
  · rw [a] at hz; cases hz
  · rw [a] at hz
    cases hz
    exact tail_any hm.typeIs slot_dict_getitem.lookup (wpAny_getItem_of (intKind_is X.prog X.w i t) hm b ⟨_, H, I.tok _, r, q⟩) hs
end
/-! ### steps -/
section
variable {σ : L2.St} {H : Hp} {Q : VK} {ta tb tc : TE} {i j : Int}
/-- what a comprehension asks -/
def LcQ (J : It) (g : TG) (tt : TT) (te : TE) (vs : List Nat) (σ : L2.St) (H1 : Hp) (Q : VK) : Prop := ∀ D, H1 D = none → ∃ W : Nat → Nat → Hp → Prop, (∃ m, W 0 m (upd H1 D (.lst []))) ∧ ∀ i m H, W i m H →
  (J.stop i H ∧ Q (.ref D) H) ∨ (J.go i H ∧ ∃ Nx : Hp → Prop, (∀ H', Nx H' → ∃ m', m' < m ∧ W (i + 1) m' H') ∧ ∀ x H', J.yld i H x H' → g x (wipe σ vs) H' fun σ2 H2 => wipe σ2 vs = wipe σ vs ∧ tt σ2 H2 fun b H3 =>
    if b = true then te σ2 H3 fun y H4 => ∃ acc, H4 D = some (.lst acc) ∧ acc.length < sizeLine ∧ Nx (upd H4 D (.lst (acc ++ [y]))) else Nx H3)
theorem w_lc {wi : TI} {g : TG} {tt : TT} {te : TE} {vs : List Nat} (q : wi σ H fun J H1 => LcQ J g tt te vs σ H1 Q) : tLc wi g tt te vs σ H Q := q
theorem w_notV (q : ta σ H fun x H1 => ∃ c, x = .bl c ∧ Q (.bl (!c)) H1) : tNotV ta σ H Q := q
theorem w_chain {r r' : R2} (q : ta σ H fun x H1 => tb σ H1 fun y H2 => r x y H2 fun z H3 => ∃ k, z = .bl k ∧ (if k = true then tc σ H3 fun w' H4 => r' y w' H4 Q else Q (.bl false) H3)) : tChain r r' ta tb tc σ H Q := q
theorem w_neg (q : Q (.int (-i)) H) : rU (fun i => .int (-i)) (.int i) H Q := ⟨i, rfl, q⟩
theorem w_shl (c : CPow i j) (q : Q (.int (i * 2 ^ j.toNat)) H) : rI CPow (fun i j => .int (i * 2 ^ j.toNat)) (.int i) (.int j) H Q := ⟨i, j, rfl, rfl, c, q⟩
theorem w_shr (c : 0 ≤ j) (q : Q (.int (i / 2 ^ j.toNat)) H) : rI (fun _ j => 0 ≤ j) (fun i j => .int (i / 2 ^ j.toNat)) (.int i) (.int j) H Q := ⟨i, j, rfl, rfl, c, q⟩
end
end KG

set_option Elab.async false
set_option linter.all false
set_option maxRecDepth 100000
set_option maxHeartbeats 4000000
namespace Law
open PySem PySem.Spec PySem.Calls PyProof.Rows L2 KG LamX
local macro_rules | `(tactic| walk_at "1") => `(tactic| first
  | (with_reducible refine w_var rfl ?_) | (with_reducible refine w_c ?_) | (with_reducible refine w_seq ?_) | (with_reducible refine w_asg ?_) | (with_reducible refine w_gname ?_) | (with_reducible refine w_op ?_) | (with_reducible refine w_un ?_)
  | (with_reducible refine w_add ?_) | (with_reducible refine w_sub ?_) | ((with_reducible refine' w_mod ?mo ?_); (case mo => first | assumption | decide | omega)) | (with_reducible refine w_and ?_) | (with_reducible refine w_or ?_) | (with_reducible refine w_xor ?_)
  | (with_reducible refine w_gt ?_) | (with_reducible refine w_lt ?_) | (with_reducible refine w_ge ?_) | (with_reducible refine w_le ?_) | ((with_reducible refine' w_eq ?sc ?_); (case sc => rfl)) | ((with_reducible refine' w_ne ?sc ?_); (case sc => rfl))
  | (with_reducible refine w_ret ?_) | (with_reducible refine w_next ?_) | (with_reducible refine w_ifs ?_) | (with_reducible refine w_ifx ?_) | (with_reducible refine w_test ?_) | (with_reducible refine w_tB ?_) | (with_reducible refine w_bl ?_)
  | ((with_reducible refine' w_ixL ?ixh ?ixa ?_); (case ixh => first | exact SqL.of (by assumption)); (case ixa => first | rfl | skip)) | ((with_reducible refine' w_ixT ?ixh ?ixa ?_); (case ixh => first | exact SqT.of (by assumption)); (case ixa => first | rfl | skip))
  | ((with_reducible refine' w_fld ?_)) | ((with_reducible refine' fld ?fh ?fc ?fn ?fl ?_); (case fh => assumption); (case fc => assumption); (case fn => assumption); (case fl => rfl)) | (with_reducible refine w_sfld ?_)
  | (with_reducible refine Or.inl ⟨_, rfl, ?_⟩) | (with_reducible refine w_gsub ?_) | (with_reducible refine w_andV ?_) | (with_reducible refine w_orV ?_)
  | (with_reducible refine w_nil ?_) | (with_reducible refine w_cons ?_) | (with_reducible refine w_tup ?_) | (with_reducible refine w_lst ?_) | (with_reducible refine w_and2 ?_) | (with_reducible refine w_or2 ?_) | (with_reducible refine w_not ?_) | (with_reducible refine w_cb ?_) | (with_reducible refine w_call ?_) | (with_reducible refine w_par ?_) | (with_reducible refine w_pnil ?_) | (with_reducible refine w_pcons ?_) | (with_reducible refine w_dput ?_) | (with_reducible refine w_dget ?_) | (with_reducible refine w_for ?_) | (with_reducible refine w_itup ?_) | (with_reducible refine w_ilist ?_) | (with_reducible refine w_irng ?_) | (with_reducible refine w_meth ?_) | (with_reducible refine w_make ?_) | (with_reducible refine w_makeK ?_) | (with_reducible refine w_methK ?_) | ((with_reducible refine' mth ?mh ?ml ?_); (case mh => assumption); (case ml => rfl)) | (with_reducible refine w_drop ?_))
local macro_rules | `(tactic| walk_at "go") => `(tactic| ((repeat (walk_at "1")); try dsimp only))
local macro_rules | `(tactic| walk_at "1") => `(tactic| first
  | (with_reducible refine w_notV ?_) | (with_reducible refine w_callK ?_) | (with_reducible refine w_lc ?_) | (with_reducible refine w_chain ?_) | (with_reducible refine w_neg ?_) | ((with_reducible refine' w_shr ?mo ?_); (case mo => first | assumption | omega)))
def top (i : Nat) : Stmt := PySem.Challenge.pw_keptbits_k26_neutral_letters.main.body.getD i (.Pass ⟨0, 0, 0, 0⟩)
abbrev s_ends_without_letters : Stmt := top 5
theorem sc_ends_without_letters : FnScope ["kind", "quiet", "state"] ["kind", "quiet"] (defScope s_ends_without_letters) := ⟨rfl, rfl, rfl, by decide +kernel, rfl, by decide +kernel, by decide +kernel⟩
theorem bd_ends_without_letters : BindOk "ends_without_letters" "ends_without_letters" s_ends_without_letters ["kind", "quiet"] := fun _ _ _ _ _ _ us hl => match us, hl with | [_, _], _ => rfl
abbrev s_ends_of_letter : Stmt := top 6
theorem sc_ends_of_letter : FnScope ["kind", "letter", "state"] ["kind", "letter"] (defScope s_ends_of_letter) := ⟨rfl, rfl, rfl, by decide +kernel, rfl, by decide +kernel, by decide +kernel⟩
theorem bd_ends_of_letter : BindOk "ends_of_letter" "ends_of_letter" s_ends_of_letter ["kind", "letter"] := fun _ _ _ _ _ _ us hl => match us, hl with | [_, _], _ => rfl
abbrev s_neutral_letters : Stmt := top 8
theorem sc_neutral_letters : FnScope ["kind", "same", "letter"] ["kind"] (defScope s_neutral_letters) := ⟨rfl, rfl, rfl, by decide +kernel, rfl, by decide +kernel, by decide +kernel⟩
theorem bd_neutral_letters : BindOk "neutral_letters" "neutral_letters" s_neutral_letters ["kind"] := fun _ _ _ _ _ _ us hl => match us, hl with | [_], _ => rfl
abbrev s_Kind___init__ : Stmt := inClass (top 13) 3
theorem sc_Kind___init__ : FnScope ["self", "reading", "writing", "device", "value", "words"] ["self", "reading", "writing", "device"] (defScope s_Kind___init__) := ⟨rfl, rfl, rfl, by decide +kernel, rfl, by decide +kernel, by decide +kernel⟩
theorem bd_Kind___init__ : BindOk "__init__" "Kind.__init__" s_Kind___init__ ["self", "reading", "writing", "device"] := fun _ _ _ _ _ _ us hl => match us, hl with | [_, _, _, _], _ => rfl
abbrev s_Kind_after_read : Stmt := inClass (top 13) 4
theorem sc_Kind_after_read : FnScope ["self", "state"] ["self", "state"] (defScope s_Kind_after_read) := ⟨rfl, rfl, rfl, by decide +kernel, rfl, by decide +kernel, by decide +kernel⟩
theorem bd_Kind_after_read : BindOk "after_read" "Kind.after_read" s_Kind_after_read ["self", "state"] := fun _ _ _ _ _ _ us hl => match us, hl with | [_, _], _ => rfl
abbrev s_Kind_after_write : Stmt := inClass (top 13) 5
theorem sc_Kind_after_write : FnScope ["self", "state", "bit"] ["self", "state", "bit"] (defScope s_Kind_after_write) := ⟨rfl, rfl, rfl, by decide +kernel, rfl, by decide +kernel, by decide +kernel⟩
theorem bd_Kind_after_write : BindOk "after_write" "Kind.after_write" s_Kind_after_write ["self", "state", "bit"] := fun _ _ _ _ _ _ us hl => match us, hl with | [_, _, _], _ => rfl
abbrev s_Kind_unguarded : Stmt := inClass (top 13) 6
theorem sc_Kind_unguarded : FnScope ["self", "state", "bit", "ends"] ["self", "state", "bit"] (defScope s_Kind_unguarded) := ⟨rfl, rfl, rfl, by decide +kernel, rfl, by decide +kernel, by decide +kernel⟩
theorem bd_Kind_unguarded : BindOk "unguarded" "Kind.unguarded" s_Kind_unguarded ["self", "state", "bit"] := fun _ _ _ _ _ _ us hl => match us, hl with | [_, _, _], _ => rfl
abbrev s_Kind_deeds : Stmt := inClass (top 13) 7
theorem sc_Kind_deeds : FnScope ["self", "state"] ["self", "state"] (defScope s_Kind_deeds) := ⟨rfl, rfl, rfl, by decide +kernel, rfl, by decide +kernel, by decide +kernel⟩
theorem bd_Kind_deeds : BindOk "deeds" "Kind.deeds" s_Kind_deeds ["self", "state"] := fun _ _ _ _ _ _ us hl => match us, hl with | [_, _], _ => rfl
abbrev s__law_pen : Stmt := top 15
theorem sc__law_pen : FnScope ["_law_script"] ["_law_script"] (defScope s__law_pen) := ⟨rfl, rfl, rfl, by decide +kernel, rfl, by decide +kernel, by decide +kernel⟩
theorem bd__law_pen : BindOk "_law_pen" "_law_pen" s__law_pen ["_law_script"] := fun _ _ _ _ _ _ us hl => match us, hl with | [_], _ => rfl
abbrev s__law_draw : Stmt := top 16
theorem sc__law_draw : FnScope ["_law_pen_here", "_law_many", "_law_digit", "_law_at", "_law_cell", "_law_large", "_law_mixed"] ["_law_pen_here", "_law_many"] (defScope s__law_draw) := ⟨rfl, rfl, rfl, by decide +kernel, rfl, by decide +kernel, by decide +kernel⟩
theorem bd__law_draw : BindOk "_law_draw" "_law_draw" s__law_draw ["_law_pen_here", "_law_many"] := fun _ _ _ _ _ _ us hl => match us, hl with | [_, _], _ => rfl
abbrev s__law_behind : Stmt := top 17
theorem sc__law_behind : FnScope ["_law_words", "_law_state", "_law_letter", "_law_second", "_law_value", "_law_bit"] ["_law_words", "_law_state", "_law_letter"] (defScope s__law_behind) := ⟨rfl, rfl, rfl, by decide +kernel, rfl, by decide +kernel, by decide +kernel⟩
theorem bd__law_behind : BindOk "_law_behind" "_law_behind" s__law_behind ["_law_words", "_law_state", "_law_letter"] := fun _ _ _ _ _ _ us hl => match us, hl with | [_, _, _], _ => rfl
abbrev s_law : Stmt := top 18
theorem sc_law : FnScope ["_law_script", "_law_pen_here", "_law_turn", "_law_got", "_law_written", "_law_words", "_law_states", "_law_due", "_law_letter", "_law_state", "_law_told"] ["_law_script"] (defScope s_law) := ⟨rfl, rfl, rfl, by decide +kernel, rfl, by decide +kernel, by decide +kernel⟩
theorem bd_law : BindOk "law" "law" s_law ["_law_script"] := fun _ _ _ _ _ _ us hl => match us, hl with | [_], _ => rfl
/-! ### kinds -/
def RD : List Str := ["keep", "take"]
def WR : List Str := ["store", "clear1", "clear0", "set1", "flip1", "once", "none"]
def DV : List Str := ["still", "raise", "end", "drift"]
def kf (r w d : Str) (st : Addr) : List (Str × V) := [("reading", .str r), ("writing", .str w), ("device", .str d), ("states", .ref st)]
def stL (w : Str) : List V := if w = "once" then [.int 0, .int 1, .int 2, .int 3] else [.int 0, .int 1]
def KindAt (C : Addr) (H : Hp) (k : Addr) (r w d : Str) : Prop := ∃ dx st, H k = some (.ins C dx (kf r w d st)) ∧ H st = some (.tup (stL w))
/-- the table of writings: for the value v and the bit b -/
def tabV (w : Str) (v b : Int) : Int :=
  if w = "store" then b else if w = "clear1" then (if b = 1 then 0 else v) else if w = "clear0" then (if b = 1 then v else 0) else if w = "set1" then (if b = 1 then 1 else v)
  else if w = "flip1" then (if b = 1 then 1 - v else v) else if w = "once" then 2 + b else v
def invL (d : Str) : List V := if d = "raise" then [.int 0] else if d = "end" then [.int 1] else if d = "drift" then [.int 0, .int 1] else []
def rdF (r : Str) (s : Int) : Int := if r = "take" then Builtin.bitAnd s 2 else s
def awF (w : Str) (s b : Int) : Int := if Builtin.bitAnd s 2 = 0 then tabV w (Builtin.bitAnd s 1) b else s
def dvF (d : Str) (s : Int) : List V := if inV (.int (Builtin.bitAnd s 1)) (invL d) = true then [.int (Builtin.bitXor s 1)] else []
def St4 (s : Int) : Prop := s = 0 ∨ s = 1 ∨ s = 2 ∨ s = 3
structure KT (K : PySem.W.Frag) (w : World) (mg : Str → Option Value) (C aW aI : Addr) (mc : Value) : Prop where
  g_Kind : mg "Kind" = some (.ref C)
  g_SPENT : ∃ t, mg "SPENT" = some (.int 2 t)
  g_WRITES : mg "WRITES" = some (.ref aW)
  g_INVERTED : mg "INVERTED" = some (.ref aI)
  g_isinstance : mg "isinstance" = none
  cl : Cls K C
  nR : NoAttr K C "reading"
  nW : NoAttr K C "writing"
  nD : NoAttr K C "device"
  nS : NoAttr K C "states"
  rd : ClX.CRead K C mc
  cR : ∃ a, ClX.CVal K C mc "READINGS" (.ref a) (.ref a) ∧ KTup K a (RD.map V.str)
  cW : ∃ a, ClX.CVal K C mc "WRITINGS" (.ref a) (.ref a) ∧ KTup K a (WR.map V.str)
  cD : ∃ a, ClX.CVal K C mc "DEVICES" (.ref a) (.ref a) ∧ KTup K a (DV.map V.str)
  tW : ∀ x ∈ WR, ∃ t t0 t1, KDct K w aW x (.ref t) ∧ KTup K t [.ref t0, .ref t1] ∧ KTup K t0 [.int (tabV x 0 0), .int (tabV x 0 1)] ∧ KTup K t1 [.int (tabV x 1 0), .int (tabV x 1 1)]
  tI : ∀ x ∈ DV, ∃ t, KDct K w aI x (.ref t) ∧ KTup K t (invL x)
  isC : PySem.W.findIn K (.ref C) "__class__" = some (some (.builtin "object.__class__"))
  isG : PySem.W.specialIn K (.builtin "object.__class__") "__get__" = some (some (.builtin "getset_descriptor.__get__"))
  isT : PySem.W.takesIn K (.builtin "object.__class__") = some true
  isM : PySem.W.mroIn K C (.type "object") = some true
/-! ### promises -/
def spInit (C : Addr) : Sp := fun vs H Q _ => ∃ (x dx : Addr) (r w d : Str), vs = [.ref x, .str r, .str w, .str d] ∧ H x = some (.ins C dx []) ∧ r ∈ RD ∧ w ∈ WR ∧ d ∈ DV ∧
  ∀ H', KindAt C H' x r w d → (∀ b o, H b = some o → b ≠ x → H' b = some o) → Q .non H'
def spAR (C : Addr) : Sp := fun vs H Q _ => ∃ (k : Addr) (r w d : Str) (s : Int), vs = [.ref k, .int s] ∧ KindAt C H k r w d ∧ Q (.int (rdF r s)) H
def spUN (C : Addr) : Sp := fun vs H Q _ => ∃ (k : Addr) (r w d : Str) (s b : Int), vs = [.ref k, .int s, .int b] ∧ KindAt C H k r w d ∧ w ∈ WR ∧ St4 s ∧ (b = 0 ∨ b = 1) ∧ Q (.int (tabV w (Builtin.bitAnd s 1) b)) H
def spAW (C : Addr) : Sp := fun vs H Q _ => ∃ (k : Addr) (r w d : Str) (s b : Int), vs = [.ref k, .int s, .int b] ∧ KindAt C H k r w d ∧ w ∈ WR ∧ St4 s ∧ (b = 0 ∨ b = 1) ∧ Q (.int (awF w s b)) H
def spDE (C : Addr) : Sp := fun vs H Q _ => ∃ (k : Addr) (r w d : Str) (s : Int), vs = [.ref k, .int s] ∧ KindAt C H k r w d ∧ d ∈ DV ∧ St4 s ∧ ∀ t H', H t = none → H' t = some (.tup (dvF d s)) → Same H H' → Q (.ref t) H'
def spEQ (C : Addr) : Sp := fun vs H Q _ => ∃ (k j : Addr) (r w d r' w' d' : Str), vs = [.ref k, .ref j] ∧ KindAt C H k r w d ∧ KindAt C H j r' w' d' ∧ Q (.bl (decide (r = r') && decide (w = w') && decide (d = d'))) H
def spST (C : Addr) : Sp := fun vs H Q _ => ∃ (k : Addr) (r w d : Str), vs = [.ref k] ∧ KindAt C H k r w d ∧ r ∈ RD ∧ w ∈ WR ∧ d ∈ DV ∧ Q (.str (Str.empty ++ r ++ " " ++ w ++ " " ++ d)) H
section
variable {P : Program} {w : World} {K : PySem.W.Frag} {mg : Str → Option Value} {base : Heap} {C aW aI : Addr} {mc : Value}
theorem ok_AR {f : Addr} (D : MetAt K C "after_read" "Kind.after_read" s_Kind_after_read ["self", "state"] f) (T : KT K w mg C aW aI mc) : ∃ fd, Meth K C "after_read" f ∧ Fun K "after_read" "Kind.after_read" s_Kind_after_read f fd ∧ Binds K fd ["self", "state"] [] ∧ Gd P w K mg base CX0 1 f fd ["self", "state"] (spAR C) := by
  refine D.gd sc_Kind_after_read (fun vs H Q E h => ?_) (fun cdv A outer s H vs Q E rm gd h => ?_)
  · obtain ⟨k, r, w, d, s, rfl, _⟩ := h
    rfl
  · obtain ⟨k, r, w, d, s, rfl, ⟨dx, st, hk, hs⟩, q⟩ := h
    obtain ⟨tS, gS⟩ := T.g_SPENT
    have cl := T.cl
    have nR := T.nR
    refine ⟨_, (pss_cons (ps_if (pt_cmpR op_eq (pe_fld (pv 0) rfl) pe_str (nomark _))
      (pss_one (ps_ret (pe_op op_and (pv 1) (pe_glob (v := .int 2) rfl gS ⟨_, rfl⟩))))
      pss_nil)
    (pss_one (ps_ret (pv 1)))), ?_⟩
    walk_at "go"
    refine ite2 (fun h => ?_) (fun h => ?_)
    · have e : r = "take" := V.str.inj (of_decide_eq_true h)
      walk_at "go"
      unfold rdF at q
      rw [if_pos e] at q
      exact q
    · have e : ¬ r = "take" := fun z => h (decide_eq_true (congrArg V.str z))
      walk_at "go"
      unfold rdF at q
      rw [if_neg e] at q
      exact q
theorem ok_UN {f : Addr} (D : MetAt K C "unguarded" "Kind.unguarded" s_Kind_unguarded ["self", "state", "bit"] f) (T : KT K w mg C aW aI mc) : ∃ fd, Meth K C "unguarded" f ∧ Fun K "unguarded" "Kind.unguarded" s_Kind_unguarded f fd ∧ Binds K fd ["self", "state", "bit"] [] ∧ Gd P w K mg base CX0 1 f fd ["self", "state", "bit"] (spUN C) := by
  refine D.gd sc_Kind_unguarded (fun vs H Q E h => ?_) (fun cdv A outer s H vs Q E rm gd h => ?_)
  · obtain ⟨k, r, w, d, s, b, rfl, _⟩ := h
    rfl
  · obtain ⟨k, r, wr, d, s, b, rfl, ⟨dx, st, hk, hs⟩, hw, h4, hb, q⟩ := h
    obtain ⟨t, t0, t1, kd, kt, k0, k1⟩ := T.tW wr hw
    have cl := T.cl
    have nW := T.nW
    refine ⟨_, (pss_cons (ps_set (i := 3) sc_Kind_unguarded.nd rfl (Or.inl rfl) (pe_ix ix_kdict (pe_glob (v := .ref aW) rfl T.g_WRITES rfl) (pe_fld (pv 0) rfl) (fun _ _ => rfl)))
    (pss_one (ps_ret (pe_ix ix_tup (pe_ix ix_tup (pv 3) (pe_op op_and (pv 1) pe_int) (fun _ _ => rfl)) (pv 2) (fun _ _ => rfl))))), ?_⟩
    walk_at "go"
    refine w_kd kd ?_
    walk_at "go"
    have h2 : Builtin.bitAnd s 1 = 0 ∨ Builtin.bitAnd s 1 = 1 := by
      rcases h4 with rfl | rfl | rfl | rfl <;> decide
    rcases h2 with e | e <;> rw [e] at q ⊢
    · refine w_ixT (kt.t _) rfl ?_
      walk_at "go"
      rcases hb with rfl | rfl
      · exact w_ixT (k0.t _) rfl q
      · exact w_ixT (k0.t _) rfl q
    · refine w_ixT (kt.t _) rfl ?_
      walk_at "go"
      rcases hb with rfl | rfl
      · exact w_ixT (k1.t _) rfl q
      · exact w_ixT (k1.t _) rfl q
theorem ok_AW {f u : Addr} (D : MetAt K C "after_write" "Kind.after_write" s_Kind_after_write ["self", "state", "bit"] f) (T : KT K w mg C aW aI mc) (mU : Met P w K mg base 1 C "unguarded" u (spUN C)) :
    ∃ fd, Meth K C "after_write" f ∧ Fun K "after_write" "Kind.after_write" s_Kind_after_write f fd ∧ Binds K fd ["self", "state", "bit"] [] ∧ Gd P w K mg base CX0 2 f fd ["self", "state", "bit"] (spAW C) := by
  refine D.gd sc_Kind_after_write (fun vs H Q E h => ?_) (fun cdv A outer s H vs Q E rm gd h => ?_)
  · obtain ⟨k, r, w, d, s, b, rfl, _⟩ := h
    rfl
  · obtain ⟨k, r, wr, d, s, b, rfl, ⟨dx, st, hk, hs⟩, hw, h4, hb, q⟩ := h
    obtain ⟨tS, gS⟩ := T.g_SPENT
    refine ⟨_, (pss_cons (ps_if (pt_cmpR op_ne (pe_op op_and (pv 1) (pe_glob (v := .int 2) rfl gS ⟨_, rfl⟩)) pe_int (nomark _))
      (pss_one (ps_ret (pv 1)))
      pss_nil)
    (pss_one (ps_ret (pm mU T.cl rm (by decide) gd (pv 0) (pa_cons (pv 1) (pa_cons (pv 2) pa_nil)))))), ?_⟩
    walk_at "go"
    refine ite2 (fun h => ?_) (fun h => ?_)
    · have e : ¬ Builtin.bitAnd s 2 = 0 := fun z => by
        rw [z] at h
        exact absurd h (by decide)
      walk_at "go"
      unfold awF at q
      rw [if_neg e] at q
      exact q
    · have e : Builtin.bitAnd s 2 = 0 := by
        by_cases z : Builtin.bitAnd s 2 = 0
        · exact z
        · refine absurd ?_ h
          rw [decide_eq_false (fun y => z (V.int.inj y))]
          rfl
      walk_at "go"
      unfold awF at q
      rw [if_pos e] at q
      exact ⟨k, r, wr, d, s, b, rfl, ⟨dx, st, hk, hs⟩, hw, h4, hb, q⟩
theorem ok_DE {f : Addr} (D : MetAt K C "deeds" "Kind.deeds" s_Kind_deeds ["self", "state"] f) (T : KT K w mg C aW aI mc) : ∃ fd, Meth K C "deeds" f ∧ Fun K "deeds" "Kind.deeds" s_Kind_deeds f fd ∧ Binds K fd ["self", "state"] [] ∧ Gd P w K mg base CX0 1 f fd ["self", "state"] (spDE C) := by
  refine D.gd sc_Kind_deeds (fun vs H Q E h => ?_) (fun cdv A outer s H vs Q E rm gd h => ?_)
  · obtain ⟨k, r, w, d, s, rfl, _⟩ := h
    rfl
  · obtain ⟨k, r, wr, d, s, rfl, ⟨dx, st, hk, hs⟩, hd, h4, q⟩ := h
    obtain ⟨t, kd, kt⟩ := T.tI d hd
    have cl := T.cl
    have nD := T.nD
    refine ⟨_, (pss_cons (ps_if (pt_cmpR op_in_seq (pe_op op_and (pv 1) pe_int) (pe_ix ix_kdict (pe_glob (v := .ref aI) rfl T.g_INVERTED rfl) (pe_fld (pv 0) rfl) (fun _ _ => rfl)) rfl)
      (pss_one (ps_ret (pe_tup (pa_cons (pe_op op_xor (pv 1) pe_int) pa_nil))))
      pss_nil)
    (pss_one (ps_ret (pe_tup pa_nil)))), ?_⟩
    walk_at "go"
    refine w_kd kd ?_
    refine w_in (.inr (kt.t _)) rfl ?_ ?_
    · unfold invL
      repeat' split
      all_goals rfl
    walk_at "go"
    refine ite2 (fun h => ?_) (fun h => ?_)
    · have e : inV (.int (Builtin.bitAnd s 1)) (invL d) = true := h
      walk_at "go"
      refine new (by show 1 ≤ sizeLine; decide) fun t H' nt ht s1 => ?_
      unfold dvF at q
      rw [if_pos e] at q
      exact q t H' nt ht s1
    · have e : ¬ inV (.int (Builtin.bitAnd s 1)) (invL d) = true := h
      walk_at "go"
      refine new (by show 0 ≤ sizeLine; decide) fun t H' nt ht s1 => ?_
      unfold dvF at q
      rw [if_neg e] at q
      exact q t H' nt ht s1
theorem ty_kind (T : KT K w mg C aW aI mc) {H : Hp} {k : Addr} {r wr d : Str} (h : KindAt C H k r wr d) : TyX K H (.ref k) (.ref C) := by
  obtain ⟨dx, st, hk, _⟩ := h
  exact .base (.ins hk T.cl T.isC T.isG T.isT T.isM)
theorem in_mem {x : Str} : ∀ {l : List Str}, x ∈ l → inV (.str x) (l.map V.str) = true
  | [], h => absurd h List.not_mem_nil
  | y :: l, h => by
    show (eqV (.str y) (.str x) || (l.map V.str).any fun z => eqV z (.str x)) = true
    rcases List.mem_cons.mp h with e | e
    · subst e
      rw [show eqV (V.str x) (V.str x) = true from beq_self_eq_true x, Bool.true_or]
    · have := in_mem e
      unfold inV at this
      rw [this, Bool.or_true]
theorem flat_strs : ∀ l : List Str, (l.map V.str).all flatV = true
  | [] => rfl
  | _ :: l => by
    rw [List.map_cons, List.all_cons, flat_strs l]
    rfl
theorem sh_rd : ∀ x ∈ RD, x.length ≤ 10 := by decide +kernel
theorem sh_wr : ∀ x ∈ WR, x.length ≤ 10 := by decide +kernel
theorem sh_dv : ∀ x ∈ DV, x.length ≤ 10 := by decide +kernel
theorem ln {a b : Str} {n m k : Nat} (h1 : a.length ≤ n) (h2 : b.length ≤ m) (h : n + m ≤ k) : (a ++ b).length ≤ k := by
  rw [strLen_append]
  omega
theorem ok_IN {f : Addr} (D : MetAt K C "__init__" "Kind.__init__" s_Kind___init__ ["self", "reading", "writing", "device"] f) (T : KT K w mg C aW aI mc) :
    ∃ fd, Meth K C "__init__" f ∧ Fun K "__init__" "Kind.__init__" s_Kind___init__ f fd ∧ Binds K fd ["self", "reading", "writing", "device"] [] ∧ Gd P w K mg base CX0 1 f fd ["self", "reading", "writing", "device"] (spInit C) := by
  refine D.gd sc_Kind___init__ (fun vs H Q E h => ?_) (fun cdv A outer s H vs Q E rm gd h => ?_)
  · obtain ⟨x, dx, r, w, d, rfl, _⟩ := h
    rfl
  · obtain ⟨x, dx, r, wr, d, rfl, hx, hr, hw, hd, q⟩ := h
    obtain ⟨aR, cR, kR⟩ := T.cR
    obtain ⟨bW, cW, kW⟩ := T.cW
    obtain ⟨aD, cD, kD⟩ := T.cD
    have cl := T.cl
    have nR := T.nR
    have nW := T.nW
    have nD := T.nD
    have nS := T.nS
    refine ⟨_, (pss_cons (ps_for PassesOwn.never rfl (pi_tup (pe_tup (pa_cons (pe_tup (pa_cons (pv 1) (pa_cons (ClX.pe_cval (pe_glob (v := .ref C) rfl T.g_Kind rfl)) pa_nil))) (pa_cons (pe_tup (pa_cons (pv 2) (pa_cons (ClX.pe_cval (pe_glob (v := .ref C) rfl T.g_Kind rfl)) pa_nil))) (pa_cons (pe_tup (pa_cons (pv 3) (pa_cons (ClX.pe_cval (pe_glob (v := .ref C) rfl T.g_Kind rfl)) pa_nil))) pa_nil))))) (pg_tup rfl (pgs_cons (pg_name (i := 4) sc_Kind___init__.nd rfl (Or.inl rfl)) (pgs_cons (pg_name (i := 5) sc_Kind___init__.nd rfl (Or.inl rfl)) pgs_nil)))
      (pss_one (ps_if (pt_cmpR op_notIn_seq (pv 4) (pv 5) rfl)
        (pss_one ps_never)
        pss_nil)))
    (pss_cons (ps_fld (pv 0) (pv 1) rfl)
    (pss_cons (ps_fld (pv 0) (pv 2) rfl)
    (pss_cons (ps_fld (pv 0) (pv 3) rfl)
    (pss_one (ps_fld (pv 0) (pe_ifExp (pt_cmpR op_eq (pv 2) pe_str (nomark _)) (pe_tup (pa_cons pe_int (pa_cons pe_int (pa_cons pe_int (pa_cons pe_int pa_nil))))) (pe_tup (pa_cons pe_int (pa_cons pe_int pa_nil)))) rfl)))))), ?_⟩
    walk_at "go"
    refine ⟨C, mc, .ref aR, .ref aR, rfl, T.rd, cR, ?_⟩
    walk_at "go"
    refine new (by show 2 ≤ sizeLine; decide) fun t1 H1 n1 h1 s1 => ?_
    walk_at "go"
    refine ⟨C, mc, .ref bW, .ref bW, rfl, T.rd, cW, ?_⟩
    walk_at "go"
    refine new (by show 2 ≤ sizeLine; decide) fun t2 H2 n2 h2 s2 => ?_
    walk_at "go"
    refine ⟨C, mc, .ref aD, .ref aD, rfl, T.rd, cD, ?_⟩
    walk_at "go"
    refine new (by show 2 ≤ sizeLine; decide) fun t3 H3 n3 h3 s3 => ?_
    walk_at "go"
    refine new (by show 3 ≤ sizeLine; decide) fun t4 H4 n4 h4 s4 => ?_
    have sA := s1.trans (s2.trans (s3.trans s4))
    refine over_t (SqT.of h4) (for_tup (xs := [.ref t1, .ref t2, .ref t3]) (fun i σ H' => ∃ v4 v5, σ = [some (.ref x), some (.str r), some (.str wr), some (.str d), v4, v5] ∧ Same H4 H') ⟨none, none, rfl, Same.refl _⟩ (fun i σ H' _ ⟨_, _, _, z⟩ => SqT.of (z _ _ h4)) ?_ ?_)
    · rintro i y σ H' hi ⟨v4, v5, rfl, z⟩
      have one : ∀ {t a : Addr} {val : Str} {l : List Str} (ht : H4 t = some (.tup [.str val, .ref a])) (ka : KTup K a (l.map V.str)) (hm : val ∈ l) (D : Ends),
          (D.nx = fun σ H' => ∃ v4 v5, σ = [some (.ref x), some (.str r), some (.str wr), some (.str d), v4, v5] ∧ Same H4 H') → True := fun _ _ _ _ _ => trivial
      match i, hi with
      | 0, hi =>
        cases hi
        refine ⟨t1, [.str r, .ref aR], rfl, SqT.of (z _ _ (s4 _ _ (s3 _ _ (s2 _ _ h1)))), rfl, _, _, rfl, _, _, rfl, rfl, ?_⟩
        walk_at "go"
        refine w_in (.inr (kR.t _)) rfl (flat_strs _) ?_
        walk_at "go"
        rw [in_mem hr]
        refine iteF ?_
        exact ⟨_, _, rfl, z⟩
      | 1, hi =>
        cases hi
        refine ⟨t2, [.str wr, .ref bW], rfl, SqT.of (z _ _ (s4 _ _ (s3 _ _ h2))), rfl, _, _, rfl, _, _, rfl, rfl, ?_⟩
        walk_at "go"
        refine w_in (.inr (kW.t _)) rfl (flat_strs _) ?_
        walk_at "go"
        rw [in_mem hw]
        refine iteF ?_
        exact ⟨_, _, rfl, z⟩
      | 2, hi =>
        cases hi
        refine ⟨t3, [.str d, .ref aD], rfl, SqT.of (z _ _ (s4 _ _ h3)), rfl, _, _, rfl, _, _, rfl, rfl, ?_⟩
        walk_at "go"
        refine w_in (.inr (kD.t _)) rfl (flat_strs _) ?_
        walk_at "go"
        rw [in_mem hd]
        refine iteF ?_
        exact ⟨_, _, rfl, z⟩
    · rintro σ H5 ⟨v4, v5, rfl, z⟩
      have s5 := sA.trans z
      have hx5 := s5 _ _ hx
      walk_at "go"
      refine sfld hx5 cl nR (by show 0 < 1000; decide) rfl fun H6 h6 e6 => ?_
      walk_at "go"
      refine sfld h6 cl nW (by show 1 < 1000; decide) rfl fun H7 h7 e7 => ?_
      walk_at "go"
      refine sfld h7 cl nD (by show 2 < 1000; decide) rfl fun H8 h8 e8 => ?_
      walk_at "go"
      have fin : ∀ (st : Addr) (H9 H10 : Hp), H9 st = some (.tup (stL wr)) → Same H8 H9 → H10 x = some (.ins C dx (kf r wr d st)) → (∀ b, b ≠ x → H10 b = H9 b) → Q .non H10 := fun st H9 H10 hst s9 hx10 e10 => by
        have nx : st ≠ x := ne_of hst (s9 _ _ h8) (by intro y; cases y)
        refine q H10 ⟨dx, st, hx10, (e10 st nx).trans hst⟩ fun b o e nb => ?_
        rw [e10 b nb]
        refine s9 _ _ ?_
        rw [e8 b nb, e7 b nb, e6 b nb]
        exact s5 _ _ e
      refine ite2 (fun h => ?_) (fun h => ?_)
      · have e : wr = "once" := V.str.inj (of_decide_eq_true h)
        walk_at "go"
        refine new (by show 4 ≤ sizeLine; decide) fun st H9 n9 h9 s9 => ?_
        walk_at "go"
        refine sfld (s9 _ _ h8) cl nS (by show 3 < 1000; decide) rfl fun H10 h10 e10 => ?_
        exact fin st H9 H10 (by rw [h9]; unfold stL; rw [if_pos e]) s9 h10 e10
      · have e : ¬ wr = "once" := fun z => h (decide_eq_true (congrArg V.str z))
        walk_at "go"
        refine new (by show 2 ≤ sizeLine; decide) fun st H9 n9 h9 s9 => ?_
        walk_at "go"
        refine sfld (s9 _ _ h8) cl nS (by show 3 < 1000; decide) rfl fun H10 h10 e10 => ?_
        exact fin st H9 H10 (by rw [h9]; unfold stL; rw [if_neg e]) s9 h10 e10
end
/-- what is tracked stays, but at p -/
def Kp (p : Addr) (H H' : Hp) : Prop := ∀ b o, H b = some o → b ≠ p → H' b = some o
/-- the pen at p -/
def PenC (n : Nat) (p l : Addr) (cells : List Int) (H : Hp) : Prop := cells.length ≤ 63 ∧ H l = some (.lst (cells.map V.int)) ∧ ∃ (a : Nat) (r : Int), a ≤ n ∧ H p = some (.lst [.ref l, .int a, .int r])
def spDraw : Sp := fun vs H Q _ => ∃ (p l : Addr) (cells : List Int) (n : Nat) (m : Int), vs = [.ref p, .int m] ∧ PenC n p l cells H ∧ n ≤ 100000 ∧ 0 < m ∧ m < 1073741824 ∧
  ∀ (d : Int) (H' : Hp), 0 ≤ d → d < m → PenC (n + 1) p l cells H' → Kp p H H' → Q (.int d) H'
structure Bi (mg : Str → Option Value) : Prop where
  g_int : mg "int" = none
  g_len : mg "len" = none
  g_abs : mg "abs" = none
  g_list : mg "list" = none
  g_range : mg "range" = none
  g_str : mg "str" = none
  g_tuple : mg "tuple" = none
  g_isinstance : mg "isinstance" = none
theorem dp_ints {K : PySem.W.Frag} {H : Hp} : ∀ ns : List Int, DpAll K H (ns.map V.int) (ns.map PyData.int)
  | [] => .nil
  | n :: ns => .cons (.int n) (dp_ints ns)
theorem sh_ints (ns : List Int) : SeqAt.shaped (.list (ns.map PyData.int)) = true := by
  have h1 : ∀ ns : List Int, PyData.canLayAll0 (ns.map PyData.int) = true := fun ns => by
    induction ns with
    | nil => simp [PyData.canLayAll0]
    | cons a as ih => simp only [List.map_cons, PyData.canLayAll0, PyData.canLay0, ih, Bool.and_self]
  have h2 : ∀ ns : List Int, PyData.depthAll (ns.map PyData.int) = 0 := fun ns => by
    induction ns with
    | nil => simp [PyData.depthAll]
    | cons a as ih => simp only [List.map_cons, PyData.depthAll, PyData.depth, ih, Nat.max_self]
  unfold SeqAt.shaped
  simp only [PyData.canLay0, PyData.depth, h1, h2]
  decide
theorem at_int {cells : List Int} {i : Int} (h0 : 0 ≤ i) (h1 : i < (cells.length : Int)) : ∃ c : Int, atI (cells.map V.int) i = some (.int c) := by
  have h : i.toNat < cells.length := by omega
  refine ⟨cells[i.toNat], at_of (j := i.toNat) (by omega) ?_⟩
  rw [List.getElem?_map, List.getElem?_eq_getElem h]
  rfl
section
variable {P : Program} {w : World} {K : PySem.W.Frag} {mg : Str → Option Value} {base : Heap}
theorem ok_draw (D : DefAt K mg "_law_draw" s__law_draw ["_law_pen_here", "_law_many"]) (B : Bi mg) : Cal P w K mg base 1 "_law_draw" spDraw := by
  refine D.cal sc__law_draw (fun vs H Q E h => ?_) (fun f cdv A outer s H vs Q E rm gd h => ?_)
  · obtain ⟨p, l, cells, n, m, rfl, _⟩ := h
    rfl
  · obtain ⟨p, l, cells, n, m, rfl, ⟨hc, hl, a, r, ha, hp⟩, hn, hm, hm2, k⟩ := h
    have hpl : p ≠ l := ne_of hp hl (by
      intro z
      cases cells with
      | nil => cases z
      | cons c cs => injection z with z; injection z with z; cases z)
    refine ⟨_, (pss_cons (ps_if (pt_cmpR op_gt (pe_ix ix_list (pv 0) pe_int (fun _ _ => rfl)) pe_int (nomark _))
      (pss_cons (ps_set (i := 2) sc__law_draw.nd rfl (Or.inl rfl) (pe_op op_mod (pe_callTy call_int1 (by rfl) B.g_int (by decide +kernel) (pa_cons (pe_ix ix_list (pv 0) pe_int (fun _ _ => rfl)) pa_nil)) (pv 1)))
      (pss_cons (ps_asg (pe_op op_fdiv (pe_ix ix_list (pv 0) pe_int (fun _ _ => rfl)) (pv 1)) (pg_sub (pv 0) pe_int set_list))
      (pss_one (ps_ret (pv 2)))))
      pss_nil)
    (pss_cons (ps_set (i := 3) sc__law_draw.nd rfl (Or.inl rfl) (pe_ix ix_list (pv 0) pe_int (fun _ _ => rfl)))
    (pss_cons (ps_asg (pe_op op_add (pv 3) pe_int) (pg_sub (pv 0) pe_int set_list))
    (pss_cons (ps_set (i := 4) sc__law_draw.nd rfl (Or.inl rfl) (pe_op op_add (pe_op op_mul pe_int (pv 3)) pe_int))
    (pss_mid (ps_if (pt_cmpR (op_neD rm.units) (pe_ix ix_list (pv 0) pe_int (fun _ _ => rfl)) (pe_lst pa_nil) (nomark _))
      (pss_one (ps_set (i := 4) sc__law_draw.nd rfl (Or.inl rfl) (pe_ix ix_list (pe_ix ix_list (pv 0) pe_int (fun _ _ => rfl)) (pe_op op_mod (pe_callTy call_int1 (by rfl) B.g_int (by decide +kernel) (pa_cons (pv 3) pa_nil)) (pe_callB call_len_seq (by rfl) B.g_len (by decide +kernel) (pa_cons (pe_ix ix_list (pv 0) pe_int (fun _ _ => rfl)) pa_nil))) (fun _ _ => rfl))))
      pss_nil)
    (pss_mid (ps_if (PW.pt (pw_and (pt_cmpR op_lt (pv 3) (pe_callB call_len_seq (by rfl) B.g_len (by decide +kernel) (pa_cons (pe_ix ix_list (pv 0) pe_int (fun _ _ => rfl)) pa_nil)) (nomark _)) (pw_and1 (pt_cmpR op_ge (pe_callB call_abs (by rfl) B.g_abs (by decide +kernel) (pa_cons (pv 4) pa_nil)) (pe_op op_pow pe_int pe_int) (nomark _)))))
      (pss_cons (ps_set (i := 5) sc__law_draw.nd rfl (Or.inl rfl) (pe_op op_add (pe_op op_mul pe_int (pe_op op_sub (pe_callB call_abs (by rfl) B.g_abs (by decide +kernel) (pa_cons (pv 4) pa_nil)) (pe_op op_pow pe_int pe_int))) (pe_callTy call_int1 (by rfl) B.g_int (by decide +kernel) (pa_cons (pe_cmpR op_lt (pv 4) pe_int (nomark _)) pa_nil))))
      (pss_cons (ps_asg (pe_op op_fdiv (pv 5) (pv 1)) (pg_sub (pv 0) pe_int set_list))
      (pss_one (ps_ret (pe_op op_mod (pe_callTy call_int1 (by rfl) B.g_int (by decide +kernel) (pa_cons (pv 5) pa_nil)) (pv 1))))))
      pss_nil)
    (pss_cons (ps_set (i := 6) sc__law_draw.nd rfl (Or.inl rfl) (pe_op op_mod (pe_callTy call_int1 (by rfl) B.g_int (by decide +kernel) (pa_cons (pe_op op_pow (pe_op op_add (pe_op op_add (pe_op op_mod (pe_callTy call_int1 (by rfl) B.g_int (by decide +kernel) (pa_cons (pv 4) pa_nil)) pe_int) (pe_op op_mul pe_int (pv 3))) pe_int) pe_int) pa_nil)) pe_int))
    (pss_cons (ps_set (i := 6) sc__law_draw.nd rfl (Or.inl rfl) (pe_op op_mod (pe_callTy call_int1 (by rfl) B.g_int (by decide +kernel) (pa_cons (pe_op op_pow (pe_op op_add (pe_op op_add (pe_op op_mul (pv 6) (pe_op op_add (pe_op op_mul pe_int (pv 3)) pe_int)) (pe_op op_mul (pe_op op_mul pe_int (pv 3)) (pv 3))) pe_int) pe_int) pa_nil)) pe_int))
    (pss_one (ps_ret (pe_op op_mod (pe_callTy call_int1 (by rfl) B.g_int (by decide +kernel) (pa_cons (pe_op op_fdiv (pv 6) pe_int) pa_nil)) (pv 1)))))))))))), ?_⟩
    walk_at "go"
    refine ite2 (fun h0 => ?_) (fun h0 => ?_)
    · walk_at "go"
      refine w_fdiv ⟨hm, hm2⟩ ?_
      walk_at "go"
      refine w_setG hp rfl rfl fun H1 hp1 e1 => ?_
      walk_at "go"
      refine k _ _ (Int.emod_nonneg _ (by omega)) (Int.emod_lt_of_pos _ hm) ⟨hc, (e1 l hpl.symm).trans hl, a, r / m, by omega, hp1⟩ fun b o e nb => (e1 b nb).trans e
    · walk_at "go"
      refine w_setG hp rfl rfl fun H1 hp1 e1 => ?_
      have hl1 : H1 l = some (.lst (cells.map V.int)) := (e1 l hpl.symm).trans hl
      have hp1 : H1 p = some (.lst [.ref l, .int ((a + 1 : Nat) : Int), .int r]) := hp1
      walk_at "go"
      refine w_mul (.inl ⟨by omega, by omega⟩) ?_
      walk_at "go"
      refine ⟨fun σ' H' => Same H1 H' ∧ ∃ c : Int, σ' = [some (.ref p), some (.int m), none, some (.int a), some (.int c), none, none], ?_, ?_⟩
      · walk_at "go"
        refine new (by decide) fun z H2 nz hz s2 => ?_
        have hp2 := s2 _ _ hp1
        have hl2 := s2 _ _ hl1
        refine ⟨.list (cells.map .int), .list [], .lst (SqL.of hl2) (dp_ints cells), .lst (SqL.of hz) .nil, sh_ints cells, by decide +kernel, ?_⟩
        walk_at "go"
        refine ite2 (fun hne => ?_) (fun _ => ?_)
        · have pos : 0 < cells.length := by
            cases cells with
            | nil => exact absurd hne (by decide)
            | cons c cs => exact Nat.succ_pos _
          walk_at "go"
          refine ⟨l, cells.map .int, rfl, .inl (SqL.of hl2), ?_⟩
          rw [List.length_map]
          walk_at "go"
          have b0 : 0 ≤ (a : Int) % (cells.length : Int) := Int.emod_nonneg _ (by omega)
          have b1 : (a : Int) % (cells.length : Int) < (cells.length : Int) := Int.emod_lt_of_pos _ (by omega)
          obtain ⟨c, hc'⟩ := at_int (cells := cells) b0 b1
          refine w_ixL (SqL.of hl2) hc' ?_
          walk_at "go"
          exact ⟨s2, c, rfl⟩
        · walk_at "go"
          exact ⟨s2, _, rfl⟩
      · rintro σ' H2 ⟨s2, c, rfl⟩
        have hp2 := s2 _ _ hp1
        have hl2 := s2 _ _ hl1
        have fin : ∀ (d : Int) (rr : Int) (H' : Hp), 0 ≤ d → d < m → H' p = some (.lst [.ref l, .int ((a + 1 : Nat) : Int), .int rr]) → (∀ b, b ≠ p → H' b = H2 b) → Q (V.int d) H' := fun d rr H' d0 d1 hp' e' =>
          k d H' d0 d1 ⟨hc, (e' l hpl.symm).trans hl2, a + 1, rr, by omega, hp'⟩ fun b o e nb => (e' b nb).trans (s2 _ _ ((e1 b nb).trans e))
        have absok : ∀ c : Int, 0 ≤ (if c < 0 then -c else c) := fun c => by split <;> omega
        refine ⟨fun σ' H' => H' = H2 ∧ σ' = [some (.ref p), some (.int m), none, some (.int a), some (.int c), none, none], ?_, ?_⟩
        · have big : ∀ (b : Int) (D : Ends), (∀ (d : Int) (H' : Hp), D.rt (.int d) H' = Q (.int d) H') → True := fun _ _ _ => trivial
          walk_at "go"
          refine ⟨l, cells.map .int, rfl, .inl (SqL.of hl2), ?_⟩
          rw [List.length_map]
          walk_at "go"
          refine ite2 (fun h1 => ?_) (fun h1 => ?_)
          · walk_at "go"
            refine ⟨c, rfl, ?_⟩
            walk_at "go"
            refine w_pow ⟨by decide, by decide, by decide⟩ ?_
            walk_at "go"
            refine ite2 (fun h2 => ?_) (fun h2 => ?_)
            · walk_at "go"
              refine ⟨c, rfl, ?_⟩
              walk_at "go"
              refine w_pow ⟨by decide, by decide, by decide⟩ ?_
              walk_at "go"
              refine w_mul (.inl ⟨by decide, by decide⟩) ?_
              walk_at "go"
              refine .inr ⟨_, rfl, ?_⟩
              walk_at "go"
              refine w_fdiv ⟨hm, hm2⟩ ?_
              walk_at "go"
              refine w_setG hp2 rfl rfl fun H3 hp3 e3 => ?_
              walk_at "go"
              exact fin _ _ _ (Int.emod_nonneg _ (by omega)) (Int.emod_lt_of_pos _ hm) hp3 e3
            · walk_at "go"
              exact ⟨rfl, rfl⟩
          · walk_at "go"
            refine ite2 (fun h2 => absurd h2 (by decide)) (fun h2 => ?_)
            walk_at "go"
            exact ⟨rfl, rfl⟩
        · rintro σ' H' ⟨rfl, rfl⟩
          have an : 0 ≤ (a : Int) := Int.natCast_nonneg _
          have a2 : (a : Int) ≤ 100000 := by omega
          walk_at "go"
          refine w_mul (.inl ⟨by decide, by decide⟩) ?_
          walk_at "go"
          have q0 : 0 ≤ c % 2147483423 := Int.emod_nonneg _ (by decide)
          have q1 : c % 2147483423 < 2147483423 := Int.emod_lt_of_pos _ (by decide)
          refine w_pow ⟨by decide, by decide, by omega⟩ ?_
          walk_at "go"
          generalize hx : (c % 2147483423 + 50847 * (a : Int) + 315) ^ Int.toNat 5 % 2147483269 = x
          have x0 : 0 ≤ x := by rw [← hx]; exact Int.emod_nonneg _ (by decide)
          have x1 : x < 2147483269 := by rw [← hx]; exact Int.emod_lt_of_pos _ (by decide)
          refine w_mul (.inl ⟨by decide, by decide⟩) ?_
          walk_at "go"
          refine w_mul (.inl ⟨by omega, by omega⟩) ?_
          walk_at "go"
          refine w_mul (.inl ⟨by decide, by decide⟩) ?_
          walk_at "go"
          refine w_mul (.inr ⟨by omega, by omega⟩) ?_
          walk_at "go"
          have y0 : 0 ≤ x * (2 * (a : Int) + 221) := Int.mul_nonneg x0 (by omega)
          have y1 : x * (2 * (a : Int) + 221) ≤ 2147483269 * 200221 := Int.mul_le_mul (by omega) (by omega) (by omega) (by decide)
          have z0 : 0 ≤ 71305 * (a : Int) * (a : Int) := Int.mul_nonneg (by omega) an
          have z1 : 71305 * (a : Int) * (a : Int) ≤ 71305 * 100000 * 100000 := Int.mul_le_mul (by omega) a2 an (by decide)
          refine w_pow ⟨by decide, by decide, by omega⟩ ?_
          walk_at "go"
          refine w_fdiv ⟨by decide, by decide⟩ ?_
          walk_at "go"
          exact fin _ r _ (Int.emod_nonneg _ (by omega)) (Int.emod_lt_of_pos _ hm) hp2 fun _ _ => rfl
theorem cut_ints (ns : List Int) (lo hi : Option Int) : ∃ ms : List Int, cutV (ns.map V.int) lo hi = ms.map V.int ∧ ms.length ≤ ns.length := by
  unfold cutV
  refine ⟨(ns.drop (HT.sIx (ns.map V.int).length 0 lo)).take (HT.sIx (ns.map V.int).length (ns.map V.int).length hi - HT.sIx (ns.map V.int).length 0 lo), ?_, ?_⟩
  · rw [List.map_take, List.map_drop]
  · rw [List.length_take, List.length_drop]
    omega
def spPen (K : PySem.W.Frag) : Sp := fun vs H Q _ => ∃ (a : Addr) (ns : List Int), vs = [.ref a] ∧ SqL K H a (ns.map V.int) ∧ ns.length ≤ 63 ∧
  ∀ (p l : Addr) (cells : List Int) (H' : Hp), H p = none → PenC 0 p l cells H' → Same H H' → Q (.ref p) H'
theorem ok_pen (D : DefAt K mg "_law_pen" s__law_pen ["_law_script"]) (B : Bi mg) : Cal P w K mg base 1 "_law_pen" (spPen K) := by
  refine D.cal sc__law_pen (fun vs H Q E h => ?_) (fun f cdv A outer s H vs Q E rm gd h => ?_)
  · obtain ⟨a, ns, rfl, _⟩ := h
    rfl
  · obtain ⟨a, ns, rfl, hs, hl, k⟩ := h
    obtain ⟨ms, em, lm⟩ := cut_ints ns none (some 63)
    refine ⟨_, (pss_one (ps_ret (pe_lst (pa_cons (pe_callTy call_list_of (by rfl) B.g_list (by decide +kernel) (pa_cons (pe_slice sl_list (pv 0) po_none (po_some pe_int)) pa_nil)) (pa_cons pe_int (pa_cons pe_int pa_nil)))))), ?_⟩
    walk_at "go"
    refine ⟨_, rfl, _, rfl, a, ns.map .int, rfl, hs, fun p1 n1 => ?_⟩
    rw [em]
    have s1 : Same H (upd H p1 (.lst (ms.map V.int))) := fun b u e => by rw [upd_ne (ne_of_none e n1)]; exact e
    walk_at "go"
    refine ⟨p1, ms.map .int, rfl, .inl (SqL.of upd_same), fun l nl => ?_⟩
    have s2 : Same (upd H p1 (.lst (ms.map V.int))) (upd (upd H p1 (.lst (ms.map V.int))) l (.lst (ms.map V.int))) := fun b u e => by rw [upd_ne (ne_of_none e nl)]; exact e
    walk_at "go"
    refine new (by show 3 ≤ sizeLine; decide) fun p H3 np h3 s3 => ?_
    exact k p l ms H3 (s1.free (s2.free np)) ⟨by omega, s3 _ _ upd_same, 0, 0, Nat.le_refl _, h3⟩ (s1.trans (s2.trans s3))
end
/-! ### letters of kinds -/
def stI (w : Str) : List Int := if w = "once" then [0, 1, 2, 3] else [0, 1]
theorem stL_eq (w : Str) : stL w = (stI w).map V.int := by
  unfold stL stI
  split <;> rfl
/-- behind a letter -/
def letF (r w : Str) (s : Int) (c : Str) : Int := if c = "r" then rdF r s else awF w s (if c = "1" then 1 else 0)
def LS3 : List Str := ["0", "1", "r"]
/-- tuples of one number each -/
def OnA (H : Hp) : List V → List Int → Prop
  | [], [] => True
  | v :: vs, s :: ss => (∃ t, v = .ref t ∧ H t = some (.tup [.int s])) ∧ OnA H vs ss
  | _, _ => False
theorem OnA.same {H H' : Hp} (z : Same H H') : ∀ {vs : List V} {ps : List Int}, OnA H vs ps → OnA H' vs ps
  | [], [], _ => trivial
  | _ :: _, _ :: _, h => let ⟨⟨t, e, h1⟩, h2⟩ := h; ⟨⟨t, e, z _ _ h1⟩, OnA.same z h2⟩
  | [], _ :: _, h => h.elim
  | _ :: _, [], h => h.elim
theorem OnA.keep {H H' : Hp} (z : ∀ t (a : Int), H t = some (.tup [.int a]) → H' t = some (.tup [.int a])) : ∀ {vs : List V} {ps : List Int}, OnA H vs ps → OnA H' vs ps
  | [], [], _ => trivial
  | _ :: _, _ :: _, h => let ⟨⟨t, e, h1⟩, h2⟩ := h; ⟨⟨t, e, z _ _ h1⟩, OnA.keep z h2⟩
  | [], _ :: _, h => h.elim
  | _ :: _, [], h => h.elim
theorem OnA.snoc {H : Hp} {t : Addr} {p : Int} (h1 : H t = some (.tup [.int p])) : ∀ {vs : List V} {ps : List Int}, OnA H vs ps → OnA H (vs ++ [.ref t]) (ps ++ [p])
  | [], [], _ => ⟨⟨t, rfl, h1⟩, trivial⟩
  | _ :: _, _ :: _, h => ⟨h.1, OnA.snoc h1 h.2⟩
  | [], _ :: _, h => h.elim
  | _ :: _, [], h => h.elim
theorem OnA.length {H : Hp} : ∀ {vs : List V} {ps : List Int}, OnA H vs ps → vs.length = ps.length
  | [], [], _ => rfl
  | _ :: _, _ :: _, h => congrArg (· + 1) (OnA.length h.2)
  | [], _ :: _, h => h.elim
  | _ :: _, [], h => h.elim
def onD (ss : List Int) : PyData := .tuple (ss.map fun s => .tuple [.int s])
theorem OnA.dp {K : PySem.W.Frag} {H : Hp} : ∀ {vs : List V} {ps : List Int}, OnA H vs ps → DpAll K H vs (ps.map fun p => PyData.tuple [.int p])
  | [], [], _ => .nil
  | _ :: _, _ :: _, h => by
    obtain ⟨t, e, ht⟩ := h.1
    subst e
    exact .cons (.tup (SqT.of ht) (.cons (.int _) .nil)) (OnA.dp h.2)
theorem onD_eqv : ∀ (a b : List Int), PyData.eqvAll (a.map fun s => .tuple [.int s]) (b.map fun s => .tuple [.int s]) = decide (a = b)
  | [], [] => rfl
  | [], _ :: _ => by
    simp only [List.map_nil, List.map_cons, PyData.eqvAll]
    exact (decide_eq_false nofun).symm
  | _ :: _, [] => by
    simp only [List.map_nil, List.map_cons, PyData.eqvAll]
    exact (decide_eq_false nofun).symm
  | x :: a, y :: b => by
    simp only [List.map_cons, PyData.eqvAll, PyData.eqv, onD_eqv a b, Bool.and_true]
    by_cases h : x = y
    · subst h
      by_cases h2 : a = b
      · subst h2
        simp
      · rw [decide_eq_false h2, decide_eq_false fun z => h2 (List.cons.inj z).2]
        simp
    · rw [decide_eq_false fun z => h (List.cons.inj z).1, show (x == y) = false from beq_eq_false_iff_ne.mpr h]
      simp
theorem onD_shaped {ss : List Int} : SeqAt.shaped (onD ss) = true := by
  have a : ∀ ss : List Int, PyData.canLayAll0 (ss.map fun s => .tuple [.int s]) = true ∧ PyData.depthAll (ss.map fun s => .tuple [.int s]) ≤ 1 := by
    intro ss
    induction ss with
    | nil => exact ⟨by simp [PyData.canLayAll0], by simp [PyData.depthAll]⟩
    | cons x ss ih =>
      refine ⟨?_, ?_⟩
      · simp only [List.map_cons, PyData.canLayAll0, PyData.canLay0, ih.1, Bool.and_self]
      · simp only [List.map_cons, PyData.depthAll, PyData.depth]
        omega
  obtain ⟨h1, h2⟩ := a ss
  unfold SeqAt.shaped onD
  have h3 : PyData.depthAll (ss.map fun s => .tuple [.int s]) = 0 ∨ PyData.depthAll (ss.map fun s => .tuple [.int s]) = 1 := by omega
  rcases h3 with e | e
  · simp only [PyData.canLay0, PyData.depth, h1, e]
    decide
  · simp only [PyData.canLay0, PyData.depth, h1, e]
    decide
def spEw (C : Addr) : Sp := fun vs H Q _ => ∃ (k : Addr) (r w d : Str), vs = [.ref k, .bl true] ∧ KindAt C H k r w d ∧ ∀ (t : Addr) (ys : List V) (H' : Hp), H' t = some (.tup ys) → OnA H' ys (stI w) → Same H H' → Q (.ref t) H'
def spEl (C : Addr) : Sp := fun vs H Q _ => ∃ (k : Addr) (r w d c : Str), vs = [.ref k, .str c] ∧ KindAt C H k r w d ∧ w ∈ WR ∧ c ∈ LS3 ∧ ∀ (t : Addr) (ys : List V) (H' : Hp), H' t = some (.tup ys) → OnA H' ys ((stI w).map fun s => letF r w s c) → Same H H' → Q (.ref t) H'
/-- the letters that change nothing -/
def neuL (r w : Str) : List Str := LS3.filter fun c => decide (((stI w).map fun s => letF r w s c) = stI w)
def spNeu (C : Addr) : Sp := fun vs H Q _ => ∃ (k : Addr) (r w d : Str), vs = [.ref k] ∧ KindAt C H k r w d ∧ w ∈ WR ∧ ∀ H', Same H H' → Q (.str (Txt.join Str.empty (neuL r w))) H'
theorem KindAt.same {C : Addr} {H H' : Hp} {k : Addr} {r w d : Str} (h : KindAt C H k r w d) (z : Same H H') : KindAt C H' k r w d := by
  obtain ⟨dx, st, a, b⟩ := h
  exact ⟨dx, st, z _ _ a, z _ _ b⟩
theorem st4_of {w : Str} {s : Int} (h : s ∈ stI w) : St4 s := by
  unfold stI at h
  unfold St4
  split at h <;> simp only [List.mem_cons, List.not_mem_nil, or_false] at h <;> omega
theorem stI_len (w : Str) : (stI w).length ≤ 4 := by
  unfold stI
  split <;> decide
theorem int_let {c : Str} (h : c ∈ LS3) (n : ¬ c = "r") : PySem.intText? c = some (if c = "1" then 1 else 0) ∧ c.length ≤ 640 ∧ ((if c = "1" then (1 : Int) else 0) = 0 ∨ (if c = "1" then (1 : Int) else 0) = 1) := by
  unfold LS3 at h
  simp only [List.mem_cons, List.not_mem_nil, or_false] at h
  rcases h with rfl | rfl | rfl
  · decide +kernel
  · decide +kernel
  · exact absurd rfl n
section
variable {P : Program} {w : World} {K : PySem.W.Frag} {mg : Str → Option Value} {base : Heap} {C aW aI : Addr} {mc : Value}
theorem ok_ew (D : DefAt K mg "ends_without_letters" s_ends_without_letters ["kind", "quiet"]) (T : KT K w mg C aW aI mc) (B : Bi mg) : Cal P w K mg base 1 "ends_without_letters" (spEw C) := by
  refine D.cal sc_ends_without_letters (fun vs H Q E h => ?_) (fun f cdv A outer s H vs Q E rm gd h => ?_)
  · obtain ⟨k, r, wr, d, rfl, _⟩ := h
    rfl
  · obtain ⟨k, r, wr, d, rfl, hk, q⟩ := h
    obtain ⟨dx, st, hk, hs⟩ := id hk
    rw [stL_eq] at hs
    have cl := T.cl
    have nS := T.nS
    refine ⟨_, (pss_cons (ps_if (pt_val (pv 1))
      (pss_one (ps_ret (pe_callTy call_tuple_of (by rfl) B.g_tuple (by decide +kernel) (pa_cons (pe_lc (own := [("state", 2)]) (g := (gName 2)) (by rfl) sc_ends_without_letters.nd (pi_tup (pe_fld (pv 0) rfl)) (blkOk_by (own := [("state", 2)]) (N := ["kind", "quiet", "state"]) (sc := defScope s_ends_without_letters) (by decide +kernel)) (fun _ _ _ _ _ => (pg_name (i := 2) sc_ends_without_letters.nd rfl (Or.inl rfl))) (fun _ _ _ _ _ => pts_nil) (fun _ _ _ _ _ => (pe_tup (pa_cons (pv 2) pa_nil)))) pa_nil))))
      pss_nil)
    (pss_one ps_never)), ?_⟩
    walk_at "go"
    refine iteT ?_
    walk_at "go"
    refine over_t (SqT.of hs) ?_
    intro D1 nD1
    have zD : Same H (upd H D1 (.lst [])) := fun b u e => by
      rw [upd_ne (ne_of_none e nD1)]
      exact e
    refine lc_tup (K := K) (a := st) (xs := (stI wr).map V.int) (fun i H' => ∃ ys, H' D1 = some (.lst ys) ∧ OnA H' ys ((stI wr).take i) ∧ Same H H') ⟨[], upd_same, trivial, zD⟩ (fun i H' _ ⟨_, _, _, z⟩ => SqT.of (z _ _ hs)) (fun i x H1 hx ⟨ys, hD, on, z1⟩ => ?_) (fun H1 ⟨ys, hD, on, z1⟩ => ?_)
    · rw [List.getElem?_map] at hx
      obtain ⟨s1, hs1, rfl⟩ := Option.map_eq_some_iff.mp hx
      walk_at "go"
      refine ⟨rfl, ?_⟩
      unfold tYes
      refine iteT ?_
      walk_at "go"
      refine new (show 1 ≤ sizeLine by decide) fun t H2 n2 h2 z2 => ?_
      have nt : D1 ≠ t := fun z => by
        rw [← z, hD] at n2
        cases n2
      have zU : ∀ b u, b ≠ D1 → H2 b = some u → upd H2 D1 (.lst (ys ++ [.ref t])) b = some u := fun b u ne e => by
        rw [upd_ne ne]
        exact e
      refine ⟨ys, z2 _ _ hD, ?_, ys ++ [.ref t], upd_same, ?_, fun b u e => zU b u (ne_of_none e nD1) (z2 _ _ (z1 _ _ e))⟩
      · rw [on.length, List.length_take]
        exact Nat.lt_of_le_of_lt (Nat.min_le_right _ _) (Nat.lt_of_le_of_lt (stI_len wr) (by decide))
      · rw [List.take_succ, hs1]
        refine OnA.keep (fun t' a e => zU t' _ (fun z => ?_) e) ((on.same z2).snoc h2)
        rw [z, z2 _ _ hD] at e
        cases e
    · rw [List.length_map, List.take_length] at on
      refine ⟨D1, ys, rfl, .inl ⟨SqL.of hD, fun t nt => ?_⟩⟩
      have zt : Same H1 (upd H1 t (.tup ys)) := fun b u e => by
        rw [upd_ne (ne_of_none e nt)]
        exact e
      exact q t ys _ upd_same (on.same zt) (z1.trans zt)
theorem ok_el {fr fw : Addr} (D : DefAt K mg "ends_of_letter" s_ends_of_letter ["kind", "letter"]) (T : KT K w mg C aW aI mc) (B : Bi mg) (mAR : Met P w K mg base 1 C "after_read" fr (spAR C)) (mAW : Met P w K mg base 2 C "after_write" fw (spAW C)) : Cal P w K mg base 3 "ends_of_letter" (spEl C) := by
  refine D.cal (k := 2) sc_ends_of_letter (fun vs H Q E h => ?_) (fun f cdv A outer s H vs Q E rm gd h => ?_)
  · obtain ⟨k, r, wr, d, c, rfl, _⟩ := h
    rfl
  · obtain ⟨k, r, wr, d, c, rfl, hK, hw, hc, q⟩ := h
    obtain ⟨dx, st, hk, hs⟩ := id hK
    rw [stL_eq] at hs
    have cl := T.cl
    have nS := T.nS
    refine ⟨_, (pss_cons (ps_if (pt_cmpR op_eq (pv 1) pe_str (nomark _))
      (pss_one (ps_ret (pe_callTy call_tuple_of (by rfl) B.g_tuple (by decide +kernel) (pa_cons (pe_lc (own := [("state", 2)]) (g := (gName 2)) (by rfl) sc_ends_of_letter.nd (pi_tup (pe_fld (pv 0) rfl)) (blkOk_by (own := [("state", 2)]) (N := ["kind", "letter", "state"]) (sc := defScope s_ends_of_letter) (by decide +kernel)) (fun _ _ _ _ _ => (pg_name (i := 2) sc_ends_of_letter.nd rfl (Or.inl rfl))) (fun _ _ _ _ _ => pts_nil) (fun _ _ _ _ _ => (pe_tup (pa_cons (pm mAR cl (rm.mono (by decide)) (Nat.le_refl _) gd (pv 0) (pa_cons (pv 2) pa_nil)) pa_nil)))) pa_nil))))
      pss_nil)
    (pss_one (ps_ret (pe_callTy call_tuple_of (by rfl) B.g_tuple (by decide +kernel) (pa_cons (pe_lc (own := [("state", 2)]) (g := (gName 2)) (by rfl) sc_ends_of_letter.nd (pi_tup (pe_fld (pv 0) rfl)) (blkOk_by (own := [("state", 2)]) (N := ["kind", "letter", "state"]) (sc := defScope s_ends_of_letter) (by decide +kernel)) (fun _ _ _ _ _ => (pg_name (i := 2) sc_ends_of_letter.nd rfl (Or.inl rfl))) (fun _ _ _ _ _ => pts_nil) (fun _ _ _ _ _ => (pe_tup (pa_cons (pm mAW cl (rm.mono (by decide)) (Nat.le_refl _) gd (pv 0) (pa_cons (pv 2) (pa_cons (pe_callTy call_int_str (by rfl) B.g_int (by decide +kernel) (pa_cons (pv 1) pa_nil)) pa_nil))) pa_nil)))) pa_nil))))), ?_⟩
    walk_at "go"
    have grow : ∀ {D1 t : Addr} {ys : List V} {H1 H2 : Hp} {i : Nat} {s1 v : Int}, H D1 = none → (stI wr)[i]? = some s1 → v = letF r wr s1 c → H1 D1 = some (.lst ys) → OnA H1 ys (((stI wr).map fun s => letF r wr s c).take i) → Same H H1 → H2 t = some (.tup [.int v]) → H1 t = none → Same H1 H2 →
        ∃ acc, H2 D1 = some (.lst acc) ∧ acc.length < sizeLine ∧ ∃ ys', upd H2 D1 (.lst (acc ++ [.ref t])) D1 = some (.lst ys') ∧ OnA (upd H2 D1 (.lst (acc ++ [.ref t]))) ys' (((stI wr).map fun s => letF r wr s c).take (i + 1)) ∧ Same H (upd H2 D1 (.lst (acc ++ [.ref t]))) := by
      intro D1 t ys H1 H2 i s1 v nD1 hs1 ev hD on z1 h2 n2 z2
      have zU : ∀ b u, b ≠ D1 → H2 b = some u → upd H2 D1 (.lst (ys ++ [.ref t])) b = some u := fun b u ne e => by
        rw [upd_ne ne]
        exact e
      refine ⟨ys, z2 _ _ hD, ?_, ys ++ [.ref t], upd_same, ?_, fun b u e => zU b u (ne_of_none e nD1) (z2 _ _ (z1 _ _ e))⟩
      · rw [on.length, List.length_take]
        exact Nat.lt_of_le_of_lt (Nat.min_le_right _ _) (by rw [List.length_map]; exact Nat.lt_of_le_of_lt (stI_len wr) (by decide))
      · rw [List.take_succ, List.getElem?_map, hs1]
        refine OnA.keep (fun t' a e => zU t' _ (fun z => ?_) e) ((on.same z2).snoc (p := letF r wr s1 c) (by rw [← ev]; exact h2))
        rw [z, z2 _ _ hD] at e
        cases e
    have fin : ∀ {D1 : Addr} {ys : List V} {H1 : Hp}, H1 D1 = some (.lst ys) → OnA H1 ys (((stI wr).map fun s => letF r wr s c).take ((stI wr).map V.int).length) → Same H H1 → ∃ p ys', [V.ref D1] = [.ref p] ∧ ((SqL K H1 p ys' ∧ ∀ l, H1 l = none → Q (.ref l) (upd H1 l (.tup ys'))) ∨ (SqT K H1 p ys' ∧ Q (.ref p) H1)) := by
      intro D1 ys H1 hD on z1
      rw [List.length_map, ← List.length_map (f := fun s => letF r wr s c), List.take_length] at on
      refine ⟨D1, ys, rfl, .inl ⟨SqL.of hD, fun t nt => ?_⟩⟩
      have zt : Same H1 (upd H1 t (.tup ys)) := fun b u e => by
        rw [upd_ne (ne_of_none e nt)]
        exact e
      exact q t ys _ upd_same (on.same zt) (z1.trans zt)
    have dS : ∀ a b : Str, decide (V.str a = V.str b) = decide (a = b) := fun a b => by
      by_cases h : a = b
      · subst h
        rw [decide_eq_true rfl, decide_eq_true rfl]
      · rw [decide_eq_false h, decide_eq_false fun z => h (V.str.inj z)]
    rw [dS]
    by_cases hr : c = "r"
    · rw [decide_eq_true hr]
      refine iteT ?_
      walk_at "go"
      refine over_t (SqT.of hs) ?_
      intro D1 nD1
      have zD : Same H (upd H D1 (.lst [])) := fun b u e => by
        rw [upd_ne (ne_of_none e nD1)]
        exact e
      refine lc_tup (K := K) (a := st) (xs := (stI wr).map V.int) (fun i H' => ∃ ys, H' D1 = some (.lst ys) ∧ OnA H' ys (((stI wr).map fun s => letF r wr s c).take i) ∧ Same H H') ⟨[], upd_same, trivial, zD⟩ (fun i H' _ ⟨_, _, _, z⟩ => SqT.of (z _ _ hs)) (fun i x H1 hx ⟨ys, hD, on, z1⟩ => ?_) (fun H1 ⟨ys, hD, on, z1⟩ => fin hD on z1)
      rw [List.getElem?_map] at hx
      obtain ⟨s1, hs1, rfl⟩ := Option.map_eq_some_iff.mp hx
      walk_at "go"
      refine ⟨rfl, ?_⟩
      unfold tYes
      refine iteT ?_
      walk_at "go"
      refine mth (z1 _ _ hk) rfl ?_
      walk_at "go"
      refine ⟨k, r, wr, d, s1, rfl, hK.same z1, ?_⟩
      walk_at "go"
      refine new (show 1 ≤ sizeLine by decide) fun t H2 n2 h2 z2 => ?_
      exact grow nD1 hs1 (by unfold letF; rw [if_pos hr]) hD on z1 h2 n2 z2
    · rw [decide_eq_false hr]
      refine iteF ?_
      obtain ⟨i1, i2, i3⟩ := int_let hc hr
      walk_at "go"
      refine over_t (SqT.of hs) ?_
      intro D1 nD1
      have zD : Same H (upd H D1 (.lst [])) := fun b u e => by
        rw [upd_ne (ne_of_none e nD1)]
        exact e
      refine lc_tup (K := K) (a := st) (xs := (stI wr).map V.int) (fun i H' => ∃ ys, H' D1 = some (.lst ys) ∧ OnA H' ys (((stI wr).map fun s => letF r wr s c).take i) ∧ Same H H') ⟨[], upd_same, trivial, zD⟩ (fun i H' _ ⟨_, _, _, z⟩ => SqT.of (z _ _ hs)) (fun i x H1 hx ⟨ys, hD, on, z1⟩ => ?_) (fun H1 ⟨ys, hD, on, z1⟩ => fin hD on z1)
      rw [List.getElem?_map] at hx
      obtain ⟨s1, hs1, rfl⟩ := Option.map_eq_some_iff.mp hx
      walk_at "go"
      refine ⟨rfl, ?_⟩
      unfold tYes
      refine iteT ?_
      walk_at "go"
      refine mth (z1 _ _ hk) rfl ?_
      walk_at "go"
      refine ⟨c, _, rfl, i1, i2, ?_⟩
      walk_at "go"
      refine ⟨k, r, wr, d, s1, _, rfl, hK.same z1, hw, st4_of (List.mem_of_getElem? hs1), i3, ?_⟩
      walk_at "go"
      refine new (show 1 ≤ sizeLine by decide) fun t H2 n2 h2 z2 => ?_
      exact grow nD1 hs1 (by unfold letF; rw [if_neg hr]) hD on z1 h2 n2 z2
theorem ls3_at {i : Nat} {c : Nat} (h : ("01r" : Str).cps[i]? = some c) : LS3[i]? = some (⟨#[c]⟩ : Str) := by
  have e : ∀ i : Nat, ("01r" : Str).cps[i]? = (#[48, 49, 114] : Array Nat)[i]? := fun i => by rw [show ("01r" : Str).cps = #[48, 49, 114] by decide +kernel]
  rw [e] at h
  match i, h with
  | 0, h => cases h; decide +kernel
  | 1, h => cases h; decide +kernel
  | 2, h => cases h; decide +kernel
theorem ok_neu {tL : Tok} (D : DefAt K mg "neutral_letters" s_neutral_letters ["kind"]) (gL : mg "LETTERS" = some (.str "01r" tL)) (cends_without_letters : Cal P w K mg base 1 "ends_without_letters" (spEw C)) (cends_of_letter : Cal P w K mg base 3 "ends_of_letter" (spEl C)) : Cal P w K mg base 4 "neutral_letters" (spNeu C) := by
  refine D.cal (k := 3) sc_neutral_letters (fun vs H Q E h => ?_) (fun f cdv A outer s H vs Q E rm gd h => ?_)
  · obtain ⟨k, r, wr, d, rfl, _⟩ := h
    rfl
  · obtain ⟨k, r, wr, d, rfl, hK, hw, q⟩ := h
    refine ⟨_, (pss_cons (ps_set (i := 1) sc_neutral_letters.nd rfl (Or.inr rfl) (pc cends_without_letters rm (by decide) gd rfl (pa_cons (pv 0) (pa_cons pe_bl pa_nil))))
    (pss_one (ps_ret (pe_join pe_str (pe_lc (own := [("letter", 2)]) (g := (gName 2)) (by rfl) sc_neutral_letters.nd (pi_str (pe_glob (v := .str "01r") rfl gL ⟨_, rfl⟩)) (blkOk_by (own := [("letter", 2)]) (N := ["kind", "same", "letter"]) (sc := defScope s_neutral_letters) (by decide +kernel)) (fun _ _ _ _ _ => (pg_name (i := 2) sc_neutral_letters.nd rfl (Or.inl rfl))) (fun _ _ _ _ _ => (pts_one (pt_cmpR (r := rEqD K) (op_eqD rm.units) (pc cends_of_letter rm (by decide) gd rfl (pa_cons (pv 0) (pa_cons (pv 2) pa_nil))) (pv 1) (nomark _)))) (fun _ _ _ _ _ => (pv 2))))))), ?_⟩
    walk_at "go"
    refine ⟨k, r, wr, d, rfl, hK, fun t ys H1 ht on z1 => ?_⟩
    walk_at "go"
    refine ⟨⟨_, rfl⟩, ?_⟩
    walk_at "go"
    refine ⟨_, rfl, ?_⟩
    intro D1 nD1
    have zD : Same H1 (upd H1 D1 (.lst [])) := fun b u e => by
      rw [upd_ne (ne_of_none e nD1)]
      exact e
    have nl : ∀ i, ((LS3.take i).filter fun c => decide (((stI wr).map fun s => letF r wr s c) = stI wr)).length ≤ 3 := fun i => Nat.le_trans (List.length_filter_le _ _) (by rw [List.length_take]; exact Nat.min_le_right _ _)
    refine lc_it walk_str (fun i H' => H' D1 = some (.lst (((LS3.take i).filter fun c => decide (((stI wr).map fun s => letF r wr s c) = stI wr)).map V.str)) ∧ Same H1 H') ⟨upd_same, zD⟩ (fun _ _ _ _ => trivial) (fun i x H2 H2' hi ⟨hD, z2⟩ hy => ?_) (fun H2 ⟨hD, z2⟩ => ?_)
    · obtain ⟨rfl, cc, hc, rfl⟩ := hy
      have ec := ls3_at hc
      walk_at "go"
      refine ⟨rfl, ?_⟩
      walk_at "go"
      refine ⟨k, r, wr, d, _, rfl, hK.same (z1.trans z2), hw, List.mem_of_getElem? ec, fun t3 ys3 H3 ht3 on3 z3 => ?_⟩
      walk_at "go"
      have z13 := z2.trans z3
      refine ⟨onD _, onD _, .tup (SqT.of ht3) on3.dp, .tup (SqT.of (z13 _ _ ht)) (on.same z13).dp, onD_shaped, onD_shaped, ?_⟩
      walk_at "go"
      rw [show (onD ((stI wr).map fun s => letF r wr s ⟨#[cc]⟩)).eqv (onD (stI wr)) = decide (((stI wr).map fun s => letF r wr s ⟨#[cc]⟩) = stI wr) by
        unfold onD
        simp only [PyData.eqv]
        exact onD_eqv _ _]
      have tk : ((LS3.take (i + 1)).filter fun c => decide (((stI wr).map fun s => letF r wr s c) = stI wr)) = ((LS3.take i).filter fun c => decide (((stI wr).map fun s => letF r wr s c) = stI wr)) ++ (if decide (((stI wr).map fun s => letF r wr s ⟨#[cc]⟩) = stI wr) = true then [(⟨#[cc]⟩ : Str)] else []) := by
        rw [List.take_succ, ec, List.filter_append]
        congr 1
        simp only [Option.toList_some, List.filter_cons, List.filter_nil]
      cases hd : decide (((stI wr).map fun s => letF r wr s ⟨#[cc]⟩) = stI wr) with
      | false =>
        refine iteF ?_
        rw [hd] at tk
        rw [tk]
        simp only [Bool.false_eq_true, if_false, List.append_nil]
        exact ⟨z3 _ _ hD, z13⟩
      | true =>
        refine iteT ?_
        rw [hd] at tk
        walk_at "go"
        refine ⟨_, z3 _ _ hD, ?_, ?_, fun b u e => ?_⟩
        · rw [List.length_map]
          exact Nat.lt_of_le_of_lt (nl i) (by decide)
        · rw [upd_same, tk, List.map_append]
          rfl
        · rw [upd_ne (ne_of_none e nD1)]
          exact z13 _ _ e
    · have e3 : LS3.take ("01r" : Str).cps.size = LS3 := by decide +kernel
      rw [e3] at hD
      walk_at "go"
      refine ⟨Str.empty, D1, neuL r wr, rfl, rfl, .inl (SqL.of hD), ?_, q _ (z1.trans z2)⟩
      have n3 := nl 3
      have all1 : ∀ l : List Str, (∀ c ∈ l, c.length ≤ 1) → (l.map (·.length)).sum ≤ l.length := fun l => by
        induction l with
        | nil => exact fun _ => Nat.le_refl _
        | cons c l ih =>
          intro h
          have := ih fun x m => h x (.tail _ m)
          have := h c (.head _)
          simp only [List.map_cons, List.sum_cons, List.length_cons]
          omega
      have l1 := all1 (neuL r wr) fun c hc => by
        have m := (List.mem_filter.mp hc).1
        have q : ∀ c ∈ LS3, c.length ≤ 1 := by decide +kernel
        exact q c m
      have l2 : (neuL r wr).length ≤ 3 := Nat.le_trans (List.length_filter_le _ _) (by decide)
      have l3 : (neuL r wr).length * (Str.empty).length = 0 := Nat.mul_zero _
      omega
end
end Law

set_option Elab.async false
set_option linter.all false
set_option maxRecDepth 100000
set_option maxHeartbeats 4000000
namespace Law
open PySem PySem.Spec PySem.Calls PyProof.Rows L2 KG LamX
local macro_rules | `(tactic| walk_at "1") => `(tactic| first
  | (with_reducible refine w_var rfl ?_) | (with_reducible refine w_c ?_) | (with_reducible refine w_seq ?_) | (with_reducible refine w_asg ?_) | (with_reducible refine w_gname ?_) | (with_reducible refine w_op ?_) | (with_reducible refine w_un ?_)
  | (with_reducible refine w_add ?_) | (with_reducible refine w_sub ?_) | ((with_reducible refine' w_mod ?mo ?_); (case mo => first | assumption | decide | omega)) | (with_reducible refine w_and ?_) | (with_reducible refine w_or ?_) | (with_reducible refine w_xor ?_)
  | (with_reducible refine w_gt ?_) | (with_reducible refine w_lt ?_) | (with_reducible refine w_ge ?_) | (with_reducible refine w_le ?_) | ((with_reducible refine' w_eq ?sc ?_); (case sc => rfl)) | ((with_reducible refine' w_ne ?sc ?_); (case sc => rfl))
  | (with_reducible refine w_ret ?_) | (with_reducible refine w_next ?_) | (with_reducible refine w_ifs ?_) | (with_reducible refine w_ifx ?_) | (with_reducible refine w_test ?_) | (with_reducible refine w_tB ?_) | (with_reducible refine w_bl ?_)
  | ((with_reducible refine' w_ixL ?ixh ?ixa ?_); (case ixh => first | exact SqL.of (by assumption)); (case ixa => first | rfl | skip)) | ((with_reducible refine' w_ixT ?ixh ?ixa ?_); (case ixh => first | exact SqT.of (by assumption)); (case ixa => first | rfl | skip))
  | ((with_reducible refine' w_fld ?_)) | ((with_reducible refine' fld ?fh ?fc ?fn ?fl ?_); (case fh => assumption); (case fc => assumption); (case fn => assumption); (case fl => rfl)) | (with_reducible refine w_sfld ?_)
  | (with_reducible refine Or.inl ⟨_, rfl, ?_⟩) | (with_reducible refine w_gsub ?_) | (with_reducible refine w_andV ?_) | (with_reducible refine w_orV ?_)
  | (with_reducible refine w_nil ?_) | (with_reducible refine w_cons ?_) | (with_reducible refine w_tup ?_) | (with_reducible refine w_lst ?_) | (with_reducible refine w_and2 ?_) | (with_reducible refine w_or2 ?_) | (with_reducible refine w_not ?_) | (with_reducible refine w_cb ?_) | (with_reducible refine w_call ?_) | (with_reducible refine w_par ?_) | (with_reducible refine w_pnil ?_) | (with_reducible refine w_pcons ?_) | (with_reducible refine w_dput ?_) | (with_reducible refine w_dget ?_) | (with_reducible refine w_for ?_) | (with_reducible refine w_itup ?_) | (with_reducible refine w_ilist ?_) | (with_reducible refine w_irng ?_) | (with_reducible refine w_meth ?_) | (with_reducible refine w_make ?_) | (with_reducible refine w_makeK ?_) | (with_reducible refine w_methK ?_) | ((with_reducible refine' mth ?mh ?ml ?_); (case mh => assumption); (case ml => rfl)) | (with_reducible refine w_drop ?_))
local macro_rules | `(tactic| walk_at "go") => `(tactic| ((repeat (walk_at "1")); try dsimp only))
local macro_rules | `(tactic| walk_at "1") => `(tactic| first
  | (with_reducible refine w_notV ?_) | (with_reducible refine w_callK ?_) | (with_reducible refine w_lc ?_) | (with_reducible refine w_chain ?_) | (with_reducible refine w_neg ?_) | ((with_reducible refine' w_shr ?mo ?_); (case mo => first | assumption | omega)))
/-! ### the law -/
def spBeh : Sp := fun vs H Q _ => ∃ (L : Addr) (r w d c : Str) (s : Int), vs = [.ref L, .int s, .str c] ∧ H L = some (.lst [.str r, .str w, .str d]) ∧ r ∈ RD ∧ w ∈ WR ∧ c ∈ LS3 ∧ s ∈ stI w ∧ Q (.int (letF r w s c)) H
theorem dS (a b : Str) : decide (V.str a = V.str b) = decide (a = b) := by
  by_cases h : a = b
  · subst h
    rw [decide_eq_true rfl, decide_eq_true rfl]
  · rw [decide_eq_false h, decide_eq_false fun z => h (V.str.inj z)]
theorem iteN {c : Bool} {A B : Prop} (h : c = false) (q : B) : if c = true then A else B := by rw [h]; exact q
theorem iteY {c : Bool} {A B : Prop} (h : c = true) (q : A) : if c = true then A else B := by rw [h]; exact q
section
variable {P : Program} {w : World} {K : PySem.W.Frag} {mg : Str → Option Value} {base : Heap} {C : Addr}
theorem ok_beh (D : DefAt K mg "_law_behind" s__law_behind ["_law_words", "_law_state", "_law_letter"]) (B : Bi mg) (gMax : mg "max" = none) : Cal P w K mg base 1 "_law_behind" spBeh := by
  refine D.cal sc__law_behind (fun vs H Q E h => ?_) (fun f cdv A outer s H vs Q E rm gd h => ?_)
  · obtain ⟨L, r, wr, d, c, st, rfl, _⟩ := h
    rfl
  · obtain ⟨L, r, wr, d, c, st, rfl, hL, hr, hw, hc, hs, q⟩ := h
    have s4 := st4_of hs
    refine ⟨_, (pss_cons (ps_par (i := 3) (j := 4) rfl sc__law_behind.nd rfl rfl (by decide) rfl rfl (pa_cons (pe_op op_mul (pe_op op_fdiv (pv 1) pe_int) pe_int) (pa_cons (pe_op op_mod (pe_callTy call_int1 (by rfl) B.g_int (by decide +kernel) (pa_cons (pv 1) pa_nil)) pe_int) pa_nil)) (by rfl))
    (pss_cons (ps_if (pt_cmpR op_eq (pv 2) pe_str (nomark _))
      (pss_one (ps_ret (pe_ifExp (pt_cmpR op_eq (pe_ix ix_list (pv 0) pe_int (fun _ _ => rfl)) pe_str (nomark _)) (pv 1) (pv 3))))
      pss_nil)
    (pss_cons (ps_set (i := 5) sc__law_behind.nd rfl (Or.inl rfl) (pe_callTy call_int_str (by rfl) B.g_int (by decide +kernel) (pa_cons (pv 2) pa_nil)))
    (pss_cons (ps_if (pt_cmpR op_eq (pe_ix ix_list (pv 0) pe_int (fun _ _ => rfl)) pe_str (nomark _))
      (pss_one (ps_ret (pe_ifExp (pt_cmpR op_eq (pv 3) pe_int (nomark _)) (pv 1) (pe_op op_add pe_int (pv 5)))))
      pss_nil)
    (pss_cons (ps_if (pt_cmpR op_eq (pe_ix ix_list (pv 0) pe_int (fun _ _ => rfl)) pe_str (nomark _))
      (pss_one (ps_ret (pe_op op_add (pv 3) (pv 5))))
      pss_nil)
    (pss_cons (ps_if (pt_cmpR op_eq (pe_ix ix_list (pv 0) pe_int (fun _ _ => rfl)) pe_str (nomark _))
      (pss_one (ps_ret (pe_op op_add (pv 3) (pe_op op_mul (pv 4) (pe_op op_sub pe_int (pv 5))))))
      pss_nil)
    (pss_cons (ps_if (pt_cmpR op_eq (pe_ix ix_list (pv 0) pe_int (fun _ _ => rfl)) pe_str (nomark _))
      (pss_one (ps_ret (pe_op op_add (pv 3) (pe_op op_mul (pv 4) (pv 5)))))
      pss_nil)
    (pss_cons (ps_if (pt_cmpR op_eq (pe_ix ix_list (pv 0) pe_int (fun _ _ => rfl)) pe_str (nomark _))
      (pss_one (ps_ret (pe_op op_add (pv 3) (pe_callB (call_max2 rfl) (by rfl) gMax (by decide +kernel) (pa_cons pe_int (pa_cons (pe_op op_sub (pe_op op_add (pv 4) (pv 5)) (pe_op op_mul (pv 4) (pv 5))) pa_nil))))))
      pss_nil)
    (pss_cons (ps_if (pt_cmpR op_eq (pe_ix ix_list (pv 0) pe_int (fun _ _ => rfl)) pe_str (nomark _))
      (pss_one (ps_ret (pe_op op_sub (pe_op op_add (pe_op op_add (pv 3) (pv 4)) (pv 5)) (pe_op op_mul (pe_op op_mul pe_int (pv 4)) (pv 5)))))
      pss_nil)
    (pss_one (ps_ret (pv 1)))))))))))), ?_⟩
    walk_at "go"
    refine w_fdiv ⟨by decide, by decide⟩ ?_
    walk_at "go"
    refine w_mul (.inr ⟨by decide, by decide⟩) ?_
    walk_at "go"
    refine ⟨_, _, rfl, ?_⟩
    walk_at "go"
    rw [dS]
    by_cases hr' : c = "r"
    · rw [decide_eq_true hr']
      refine iteT ?_
      walk_at "go"
      unfold letF rdF at q
      rw [if_pos hr'] at q
      unfold RD at hr
      simp only [List.mem_cons, List.not_mem_nil, or_false] at hr
      rcases hr with rfl | rfl
      · refine iteY (by decide +kernel) ?_
        walk_at "go"
        rw [if_neg (by decide +kernel)] at q
        exact q
      · refine iteN (by decide +kernel) ?_
        walk_at "go"
        rw [if_pos rfl] at q
        have e : st / 2 * 2 = Builtin.bitAnd st 2 := by rcases s4 with rfl | rfl | rfl | rfl <;> decide +kernel
        rw [e]
        exact q
    · rw [decide_eq_false hr']
      refine iteF ?_
      obtain ⟨i1, i2, i3⟩ := int_let hc hr'
      unfold letF at q
      rw [if_neg hr'] at q
      walk_at "go"
      refine ⟨c, _, rfl, i1, i2, ?_⟩
      generalize (if c = "1" then (1 : Int) else 0) = b at i3 q
      walk_at "go"
      have fin : ∀ n, n = awF wr st b → Q (.int n) H := fun n e => by rw [e]; exact q
      unfold WR at hw
      simp only [List.mem_cons, List.not_mem_nil, or_false] at hw
      rcases hw with rfl | rfl | rfl | rfl | rfl | rfl | rfl
      · skip
        refine iteN (by decide +kernel) ?_
        walk_at "go"
        refine iteY (by decide +kernel) ?_
        walk_at "go"
        refine fin _ ?_
        rcases s4 with rfl | rfl | rfl | rfl <;> rcases i3 with rfl | rfl <;> first | decide +kernel | exact absurd hs (by decide +kernel)
      · skip
        refine iteN (by decide +kernel) ?_
        walk_at "go"
        refine iteN (by decide +kernel) ?_
        walk_at "go"
        refine iteY (by decide +kernel) ?_
        walk_at "go"
        refine w_mul (.inl ⟨by omega, by omega⟩) ?_
        walk_at "go"
        refine fin _ ?_
        rcases s4 with rfl | rfl | rfl | rfl <;> rcases i3 with rfl | rfl <;> first | decide +kernel | exact absurd hs (by decide +kernel)
      · skip
        refine iteN (by decide +kernel) ?_
        walk_at "go"
        refine iteN (by decide +kernel) ?_
        walk_at "go"
        refine iteN (by decide +kernel) ?_
        walk_at "go"
        refine iteY (by decide +kernel) ?_
        walk_at "go"
        refine w_mul (.inl ⟨by omega, by omega⟩) ?_
        walk_at "go"
        refine fin _ ?_
        rcases s4 with rfl | rfl | rfl | rfl <;> rcases i3 with rfl | rfl <;> first | decide +kernel | exact absurd hs (by decide +kernel)
      · skip
        refine iteN (by decide +kernel) ?_
        walk_at "go"
        refine iteN (by decide +kernel) ?_
        walk_at "go"
        refine iteN (by decide +kernel) ?_
        walk_at "go"
        refine iteN (by decide +kernel) ?_
        walk_at "go"
        refine iteY (by decide +kernel) ?_
        walk_at "go"
        refine w_mul (.inl ⟨by omega, by omega⟩) ?_
        walk_at "go"
        refine ⟨0, _, rfl, ?_⟩
        walk_at "go"
        refine fin _ ?_
        rcases s4 with rfl | rfl | rfl | rfl <;> rcases i3 with rfl | rfl <;> first | decide +kernel | exact absurd hs (by decide +kernel)
      · skip
        refine iteN (by decide +kernel) ?_
        walk_at "go"
        refine iteN (by decide +kernel) ?_
        walk_at "go"
        refine iteN (by decide +kernel) ?_
        walk_at "go"
        refine iteN (by decide +kernel) ?_
        walk_at "go"
        refine iteN (by decide +kernel) ?_
        walk_at "go"
        refine iteY (by decide +kernel) ?_
        walk_at "go"
        refine w_mul (.inl ⟨by decide, by decide⟩) ?_
        walk_at "go"
        refine w_mul (.inl ⟨by omega, by omega⟩) ?_
        walk_at "go"
        refine fin _ ?_
        rcases s4 with rfl | rfl | rfl | rfl <;> rcases i3 with rfl | rfl <;> first | decide +kernel | exact absurd hs (by decide +kernel)
      · skip
        refine iteY (by decide +kernel) ?_
        walk_at "go"
        by_cases hz : st / 2 * 2 = 2
        · rw [show decide (V.int (st / 2 * 2) = V.int 2) = true from decide_eq_true (congrArg V.int hz)]
          refine iteT ?_
          walk_at "go"
          refine fin _ ?_
          rcases s4 with rfl | rfl | rfl | rfl <;> rcases i3 with rfl | rfl <;> first | decide +kernel | exact absurd hz (by decide)
        · rw [show decide (V.int (st / 2 * 2) = V.int 2) = false from decide_eq_false fun z => hz (V.int.inj z)]
          refine iteF ?_
          walk_at "go"
          refine fin _ ?_
          rcases s4 with rfl | rfl | rfl | rfl <;> rcases i3 with rfl | rfl <;> first | decide +kernel | exact absurd rfl hz
      · skip
        refine iteN (by decide +kernel) ?_
        walk_at "go"
        refine iteN (by decide +kernel) ?_
        walk_at "go"
        refine iteN (by decide +kernel) ?_
        walk_at "go"
        refine iteN (by decide +kernel) ?_
        walk_at "go"
        refine iteN (by decide +kernel) ?_
        walk_at "go"
        refine iteN (by decide +kernel) ?_
        walk_at "go"
        refine fin _ ?_
        rcases s4 with rfl | rfl | rfl | rfl <;> rcases i3 with rfl | rfl <;> first | decide +kernel | exact absurd hs (by decide +kernel)
theorem two_at {i : Int} (h0 : 0 ≤ i) (h1 : i < 2) : ∃ r, atI [V.str "keep", .str "take"] i = some (.str r) ∧ r ∈ RD := by
  have h : i = 0 ∨ i = 1 := by omega
  rcases h with rfl | rfl
  · exact ⟨"keep", rfl, by decide +kernel⟩
  · exact ⟨"take", rfl, by decide +kernel⟩
theorem four_at {i : Int} (h0 : 0 ≤ i) (h1 : i < 4) : ∃ r, atI [V.str "still", .str "raise", .str "end", .str "drift"] i = some (.str r) ∧ r ∈ DV := by
  have h : i = 0 ∨ i = 1 ∨ i = 2 ∨ i = 3 := by omega
  rcases h with rfl | rfl | rfl | rfl
  · exact ⟨"still", rfl, by decide +kernel⟩
  · exact ⟨"raise", rfl, by decide +kernel⟩
  · exact ⟨"end", rfl, by decide +kernel⟩
  · exact ⟨"drift", rfl, by decide +kernel⟩
theorem seven_at {i : Int} (h0 : 0 ≤ i) (h1 : i < 7) : ∃ r, atI [V.str "store", .str "clear1", .str "clear0", .str "set1", .str "flip1", .str "once", .str "none"] i = some (.str r) ∧ r ∈ WR := by
  have h : i = 0 ∨ i = 1 ∨ i = 2 ∨ i = 3 ∨ i = 4 ∨ i = 5 ∨ i = 6 := by omega
  rcases h with rfl | rfl | rfl | rfl | rfl | rfl | rfl
  · exact ⟨"store", rfl, by decide +kernel⟩
  · exact ⟨"clear1", rfl, by decide +kernel⟩
  · exact ⟨"clear0", rfl, by decide +kernel⟩
  · exact ⟨"set1", rfl, by decide +kernel⟩
  · exact ⟨"flip1", rfl, by decide +kernel⟩
  · exact ⟨"once", rfl, by decide +kernel⟩
  · exact ⟨"none", rfl, by decide +kernel⟩
theorem sql_same {H H' : Hp} {a : Addr} {xs : List V} (h : SqL K H a xs) (s : Same H H') : SqL K H' a xs := by
  rcases h with (h | ⟨o, h⟩) | h
  · exact .inl (.inl (s _ _ h))
  · exact .inl (.inr ⟨o, s _ _ h⟩)
  · exact .inr h
/-- texts one after another -/
def cat (l : List Str) : Str := l.foldl (· ++ ·) Str.empty
theorem cat_snoc {l : List Str} {c : Str} : cat (l ++ [c]) = cat l ++ c := by
  unfold cat
  rw [List.foldl_append]
  rfl
theorem cat_from : ∀ (l : List Str) (a : Str), l.foldl (· ++ ·) a = a ++ Str.join Str.empty l
  | [], a => (Str.append_empty a).symm
  | [x], a => rfl
  | x :: y :: r, a => by
    show (y :: r).foldl (· ++ ·) (a ++ x) = a ++ (x ++ Str.empty ++ Str.join Str.empty (y :: r))
    rw [cat_from (y :: r) (a ++ x), Str.append_empty, Str.append_assoc]
theorem cat_join (l : List Str) : Txt.join Str.empty l = cat l := by
  unfold cat
  rw [TL.join_eq, cat_from, Str.empty_append]
theorem ints_eqv : ∀ (a b : List Int), PyData.eqvAll (a.map PyData.int) (b.map PyData.int) = decide (a = b)
  | [], [] => rfl
  | [], _ :: _ => by
    simp only [List.map_nil, List.map_cons, PyData.eqvAll]
    exact (decide_eq_false nofun).symm
  | _ :: _, [] => by
    simp only [List.map_nil, List.map_cons, PyData.eqvAll]
    exact (decide_eq_false nofun).symm
  | x :: a, y :: b => by
    simp only [List.map_cons, PyData.eqvAll, PyData.eqv, ints_eqv a b]
    by_cases h : x = y
    · subst h
      by_cases h2 : a = b
      · subst h2
        simp
      · rw [decide_eq_false h2, decide_eq_false fun z => h2 (List.cons.inj z).2]
        simp
    · rw [decide_eq_false fun z => h (List.cons.inj z).1, show (x == y) = false from beq_eq_false_iff_ne.mpr h]
      simp
def neuT (r w : Str) (i : Nat) : List Str := (LS3.take i).filter fun c => decide (((stI w).map fun s => letF r w s c) = stI w)
theorem neuT_len {r w : Str} {i : Nat} : (cat (neuT r w i)).length ≤ 3 := by
  have all1 : ∀ (l : List Str) (a : Str), (∀ c ∈ l, c.length ≤ 1) → (l.foldl (· ++ ·) a).length ≤ a.length + l.length := fun l => by
    induction l with
    | nil => exact fun _ _ => Nat.le_refl _
    | cons c l ih =>
      intro a h
      have h1 := ih (a ++ c) fun x m => h x (.tail _ m)
      have h2 := h c (.head _)
      rw [strLen_append] at h1
      simp only [List.foldl_cons, List.length_cons]
      omega
  have q : ∀ c ∈ LS3, c.length ≤ 1 := by decide +kernel
  have l1 := all1 (neuT r w i) Str.empty fun c hc => q c (List.mem_of_mem_take (List.mem_filter.mp hc).1)
  have l2 : (neuT r w i).length ≤ 3 := Nat.le_trans (List.length_filter_le _ _) (by rw [List.length_take]; exact Nat.min_le_right _ _)
  have l0 : (Str.empty).length = 0 := rfl
  unfold cat
  omega
theorem neuT_succ {r w : Str} {i : Nat} {c : Str} (h : LS3[i]? = some c) : neuT r w (i + 1) = neuT r w i ++ (if decide (((stI w).map fun s => letF r w s c) = stI w) = true then [c] else []) := by
  unfold neuT
  rw [List.take_succ, h, List.filter_append]
  congr 1
  simp only [Option.toList_some, List.filter_cons, List.filter_nil]
def spLaw (K : PySem.W.Frag) : Sp := fun vs H Q _ => ∃ (a : Addr) (ns : List Int), vs = [.ref a] ∧ SqL K H a (ns.map V.int) ∧ ns.length ≤ 63 ∧ ∀ H', Q (.bl true) H'
theorem PenC.same {n : Nat} {p l : Addr} {cells : List Int} {H H' : Hp} (h : PenC n p l cells H) (s : Same H H') : PenC n p l cells H' := by
  obtain ⟨a, b, c, d, e, f⟩ := h
  exact ⟨a, s _ _ b, c, d, e, s _ _ f⟩
theorem PenC.mono {n m : Nat} {p l : Addr} {cells : List Int} {H : Hp} (h : PenC n p l cells H) (k : n ≤ m) : PenC m p l cells H := by
  obtain ⟨a, b, c, d, e, f⟩ := h
  exact ⟨a, b, c, d, Nat.le_trans e k, f⟩
theorem PenC.tup {n : Nat} {p l t : Addr} {cells : List Int} {xs : List V} {H H' : Hp} (h : PenC n p l cells H) (k : Kp p H H') (ht : H t = some (.tup xs)) : H' t = some (.tup xs) := by
  obtain ⟨_, _, _, _, _, z⟩ := h
  exact k _ _ ht fun e => by
    rw [e, z] at ht
    cases ht
theorem ok_law {fl fT aW aI : Addr} {fd fdI : FuncData} {mc : Value} (F : Fun K "law" "law" s_law fl fd) (T : KT K w mg C aW aI mc) (B : Bi mg) (gMax : mg "max" = none) (gMin : mg "min" = none) (c_law_pen : Cal P w K mg base 1 "_law_pen" (spPen K)) (c_law_draw : Cal P w K mg base 1 "_law_draw" spDraw)
    (c_law_behind : Cal P w K mg base 1 "_law_behind" spBeh) (cneutral_letters : Cal P w K mg base 4 "neutral_letters" (spNeu C)) (MK : Mk K C fT) (FIN : Gd P w K mg base CX0 1 fT fdI ["self", "reading", "writing", "device"] (spInit C)) (bIN : Binds K fdI ["self", "reading", "writing", "device"] []) :
    Gd P w K mg base CX0 6 fl fd ["_law_script"] (spLaw K) := by
  refine gd0 (k := 5) F sc_law (fun vs H Q E h => ?_) (fun cdv A outer s H vs Q E rm gd h => ?_)
  · obtain ⟨a, ns, rfl, _⟩ := h
    rfl
  · obtain ⟨a, ns, rfl, hS, hlen, q⟩ := h
    refine ⟨_, (pss_cons (ps_set (i := 1) sc_law.nd rfl (Or.inl rfl) (pc c_law_pen rm (by decide) gd rfl (pa_cons (pv 0) pa_nil)))
    (pss_cons (ps_for PassesOwn.never rfl (pi_range1 rfl B.g_range (pa_cons (pe_callB (call_max2 rfl) (by rfl) gMax (by decide +kernel) (pa_cons pe_int (pa_cons (pe_callB (call_min2 rfl) (by rfl) gMin (by decide +kernel) (pa_cons pe_int (pa_cons (pe_callB call_len_seq (by rfl) B.g_len (by decide +kernel) (pa_cons (pv 0) pa_nil)) pa_nil))) pa_nil))) pa_nil)) (pg_name (i := 2) sc_law.nd rfl (Or.inl rfl))
      (pss_cons (ps_set (i := 3) sc_law.nd rfl (Or.inl rfl) (pe_ix ix_tup (pe_tup (pa_cons pe_str (pa_cons pe_str pa_nil))) (pc c_law_draw rm (by decide) gd rfl (pa_cons (pv 1) (pa_cons pe_int pa_nil))) (fun _ _ => rfl)))
      (pss_cons (ps_set (i := 4) sc_law.nd rfl (Or.inl rfl) (pe_ix ix_tup (pe_tup (pa_cons pe_str (pa_cons pe_str (pa_cons pe_str (pa_cons pe_str (pa_cons pe_str (pa_cons pe_str (pa_cons pe_str pa_nil)))))))) (pc c_law_draw rm (by decide) gd rfl (pa_cons (pv 1) (pa_cons pe_int pa_nil))) (fun _ _ => rfl)))
      (pss_cons (ps_set (i := 5) sc_law.nd rfl (Or.inr rfl) (pe_lst (pa_cons (pv 3) (pa_cons (pv 4) (pa_cons (pe_ix ix_tup (pe_tup (pa_cons pe_str (pa_cons pe_str (pa_cons pe_str (pa_cons pe_str pa_nil))))) (pc c_law_draw rm (by decide) gd rfl (pa_cons (pv 1) (pa_cons pe_int pa_nil))) (fun _ _ => rfl)) pa_nil)))))
      (pss_mid (ps_set (i := 6) sc_law.nd rfl (Or.inl rfl) (pe_ifExp (pt_cmpR op_eq (pe_ix ix_list (pv 5) pe_int (fun _ _ => rfl)) pe_str (nomark _)) (pe_lst (pa_cons pe_int (pa_cons pe_int (pa_cons pe_int (pa_cons pe_int pa_nil))))) (pe_lst (pa_cons pe_int (pa_cons pe_int pa_nil)))))
      (pss_cons (ps_set (i := 7) sc_law.nd rfl (Or.inl rfl) pe_str)
      (pss_cons (ps_for PassesOwn.never rfl (pi_str pe_str) (pg_name (i := 8) sc_law.nd rfl (Or.inr rfl))
        (pss_one (ps_if (pt_cmpR (op_eqD rm.units) (pe_lc (own := [("_law_state", 9)]) (g := (gName 9)) (by rfl) sc_law.nd (pi_list (pv 6)) (blkOk_by (own := [("_law_state", 9)]) (N := ["_law_script", "_law_pen_here", "_law_turn", "_law_got", "_law_written", "_law_words", "_law_states", "_law_due", "_law_letter", "_law_state", "_law_told"]) (sc := defScope s_law) (by decide +kernel)) (fun _ _ _ _ _ => (pg_name (i := 9) sc_law.nd rfl (Or.inl rfl))) (fun _ _ _ _ _ => pts_nil) (fun _ _ _ _ _ => (pc c_law_behind rm (by decide) gd rfl (pa_cons (pv 5) (pa_cons (pv 9) (pa_cons (pv 8) pa_nil)))))) (pv 6) (nomark _))
          (pss_one (ps_set (i := 7) sc_law.nd rfl (Or.inl rfl) (pe_op op_add_str (pv 7) (pv 8))))
          pss_nil)))
      (pss_cons (ps_set (i := 10) sc_law.nd rfl (Or.inl rfl) (pc cneutral_letters rm (by decide) gd rfl (pa_cons (pe_gmake MK FIN (rm.mono (by decide)) gd rfl T.g_Kind bIN .nil pass0 (pa_cons (pe_ix ix_list (pv 5) pe_int (fun _ _ => rfl)) (pa_cons (pe_ix ix_list (pv 5) pe_int (fun _ _ => rfl)) (pa_cons (pe_ix ix_list (pv 5) pe_int (fun _ _ => rfl)) pa_nil)))) pa_nil)))
      (pss_one (ps_if (PW.pt (pw_or (pt_not (pt_val (pe_callB call_isi (by rfl) B.g_isinstance (by decide +kernel) (pa_cons (pv 10) (pa_cons (pe_bltn (v := .ty "str") rfl B.g_str (by decide +kernel) rfl) pa_nil))))) (pw_or1 (pt_cmpR op_ne (pv 10) (pv 7) (nomark _)))))
        (pss_one (ps_ret pe_bl))
        pss_nil))))))))))
    (pss_one (ps_ret pe_bl)))), ?_⟩
    walk_at "go"
    refine ⟨a, ns, rfl, hS, hlen, fun p l cells H1 np pen1 s1 => ?_⟩
    walk_at "go"
    refine ⟨a, ns.map V.int, rfl, .inl (sql_same hS s1), ?_⟩
    walk_at "go"
    refine ⟨63, _, rfl, ?_⟩
    walk_at "go"
    refine ⟨8, _, rfl, ?_⟩
    walk_at "go"
    rw [List.length_map]
    generalize hm : (if (if ((ns.length : Nat) : Int) < 63 then ((ns.length : Nat) : Int) else 63) > 8 then (if ((ns.length : Nat) : Int) < 63 then ((ns.length : Nat) : Int) else 63) else 8) = m
    have m1 : 0 ≤ m ∧ m ≤ 63 := by
      rw [← hm]
      split <;> split <;> omega
    refine over_r (by show -(2 ^ 62) ≤ m; omega) (by show m < 2 ^ 62; omega) (for_range (n := m.toNat) (fun i σ H' => (∃ v2 v3 v4 v5 v6 v7 v8 v9 v10, σ = [some (.ref a), some (.ref p), v2, v3, v4, v5, v6, v7, v8, v9, v10]) ∧ PenC (3 * i) p l cells H') ⟨⟨none, none, none, none, none, none, none, none, none, rfl⟩, pen1⟩ ?_ ?_)
    · rintro i σ H2 hi ⟨⟨v2, v3, v4, v5, v6, v7, v8, v9, v10, rfl⟩, pen2⟩
      walk_at "go"
      refine new (show 2 ≤ sizeLine by decide) fun t3 H3 n3 h3 s3 => ?_
      have pen3 := pen2.same s3
      walk_at "go"
      refine ⟨p, l, cells, 3 * i, 2, rfl, pen3, by omega, by decide, by decide, fun d H4 d0 d1 pen4 k4 => ?_⟩
      obtain ⟨r, er, hr⟩ := two_at d0 d1
      refine w_ixT (SqT.of (pen3.tup k4 h3)) er ?_
      walk_at "go"
      refine new (show 7 ≤ sizeLine by decide) fun t5 H5 n5 h5 s5 => ?_
      have pen5 := pen4.same s5
      walk_at "go"
      refine ⟨p, l, cells, 3 * i + 1, 7, rfl, pen5, by omega, by decide, by decide, fun d H6 d0 d1 pen6 k6 => ?_⟩
      obtain ⟨wr, ew, hw⟩ := seven_at d0 d1
      refine w_ixT (SqT.of (pen5.tup k6 h5)) ew ?_
      walk_at "go"
      refine new (show 4 ≤ sizeLine by decide) fun t7 H7 n7 h7 s7 => ?_
      have pen7 := pen6.same s7
      walk_at "go"
      refine ⟨p, l, cells, 3 * i + 2, 4, rfl, pen7, by omega, by decide, by decide, fun d H8 d0 d1 pen8 k8 => ?_⟩
      obtain ⟨dv, ed, hd⟩ := four_at d0 d1
      refine w_ixT (SqT.of (pen7.tup k8 h7)) ed ?_
      walk_at "go"
      refine new (show 3 ≤ sizeLine by decide) fun L H9 n9 h9 s9 => ?_
      have pen9 := pen8.same s9
      walk_at "go"
      refine w_mid (fun σ' H' => ∃ (S : Addr) (v2 v7 v8 v9 v10 : Option V), σ' = [some (.ref a), some (.ref p), v2, some (.str r), some (.str wr), some (.ref L), some (.ref S), v7, v8, v9, v10] ∧ H' S = some (.lst ((stI wr).map V.int)) ∧ Same H9 H') ?_ fun σ' H10 ⟨S, v2, v7, v8, v9, v10, es, hS, z10⟩ => ?_
      · walk_at "go"
        rw [dS]
        by_cases ho : wr = "once"
        · rw [decide_eq_true ho]
          refine iteT ?_
          walk_at "go"
          refine new (show 4 ≤ sizeLine by decide) fun S H10 n10 h10 s10 => ?_
          refine ⟨S, _, _, _, _, _, rfl, ?_, s10⟩
          rw [h10]
          unfold stI
          rw [if_pos ho]
          rfl
        · rw [decide_eq_false ho]
          refine iteF ?_
          walk_at "go"
          refine new (show 2 ≤ sizeLine by decide) fun S H10 n10 h10 s10 => ?_
          refine ⟨S, _, _, _, _, _, rfl, ?_, s10⟩
          rw [h10]
          unfold stI
          rw [if_neg ho]
          rfl
      subst es
      have hL := z10 _ _ h9
      walk_at "go"
      refine ⟨_, rfl, ?_⟩
      refine for_it walk_str (fun j σ H' => ∃ (v2 v8 v9 v10 : Option V), σ = [some (.ref a), some (.ref p), v2, some (.str r), some (.str wr), some (.ref L), some (.ref S), some (.str (cat (neuT r wr j))), v8, v9, v10] ∧ Same H10 H') ⟨_, _, _, _, rfl, Same.refl _⟩ (fun _ _ _ _ _ => trivial) (fun j x σ H0 H11 hj pj hy => ?_) fun σ H11 pj => ?_
      · obtain ⟨v2, v8, v9, v10, rfl, z11⟩ := pj
        obtain ⟨rfl, cc, hc, rfl⟩ := hy
        have ec := ls3_at hc
        walk_at "go"
        refine over_l (SqL.of (z11 _ _ hS)) ?_
        intro D1 nD1
        have zD : Same H11 (upd H11 D1 (.lst [])) := fun b u e => by
          rw [upd_ne (ne_of_none e nD1)]
          exact e
        refine lc_list (K := K) (a := S) (xs := (stI wr).map V.int) (fun i H' => H' D1 = some (.lst ((((stI wr).map fun s => letF r wr s ⟨#[cc]⟩).take i).map V.int)) ∧ Same H11 H') ⟨upd_same, zD⟩ (fun i H' _ ⟨_, z⟩ => SqL.of (z _ _ (z11 _ _ hS))) (fun i x H12 hx ⟨hD, z12⟩ => ?_) (fun H12 ⟨hD, z12⟩ => ?_)
        · rw [List.getElem?_map] at hx
          obtain ⟨s1, hs1, rfl⟩ := Option.map_eq_some_iff.mp hx
          walk_at "go"
          refine ⟨rfl, ?_⟩
          unfold tYes
          refine iteT ?_
          walk_at "go"
          refine ⟨L, r, wr, dv, ⟨#[cc]⟩, s1, rfl, z12 _ _ (z11 _ _ hL), hr, hw, List.mem_of_getElem? ec, List.mem_of_getElem? hs1, ?_⟩
          refine ⟨_, hD, ?_, ?_, fun b u e => ?_⟩
          · rw [List.length_map, List.length_take, List.length_map]
            exact Nat.lt_of_le_of_lt (Nat.min_le_right _ _) (Nat.lt_of_le_of_lt (stI_len wr) (by decide))
          · rw [upd_same, List.take_succ, List.getElem?_map, hs1, List.map_append]
            rfl
          · rw [upd_ne (ne_of_none e nD1)]
            exact z12 _ _ e
        · rw [List.length_map, ← List.length_map (f := fun s => letF r wr s ⟨#[cc]⟩), List.take_length] at hD
          walk_at "go"
          refine ⟨.list (((stI wr).map fun s => letF r wr s ⟨#[cc]⟩).map PyData.int), .list ((stI wr).map PyData.int), .lst (SqL.of hD) (dp_ints _), .lst (SqL.of (z12 _ _ (z11 _ _ hS))) (dp_ints _), sh_ints _, sh_ints _, ?_⟩
          walk_at "go"
          rw [show (PyData.list (((stI wr).map fun s => letF r wr s ⟨#[cc]⟩).map PyData.int)).eqv (PyData.list ((stI wr).map PyData.int)) = decide (((stI wr).map fun s => letF r wr s ⟨#[cc]⟩) = stI wr) by
            simp only [PyData.eqv]
            exact ints_eqv _ _]
          have ts := neuT_succ (r := r) (w := wr) ec
          cases hdd : decide (((stI wr).map fun s => letF r wr s ⟨#[cc]⟩) = stI wr) with
          | false =>
            rw [hdd] at ts
            simp only [Bool.false_eq_true, if_false, List.append_nil] at ts
            refine iteF ?_
            walk_at "go"
            rw [ts]
            exact ⟨_, _, _, _, rfl, z11.trans z12⟩
          | true =>
            rw [hdd] at ts
            simp only [if_true] at ts
            refine iteT ?_
            walk_at "go"
            refine ⟨_, _, rfl, rfl, ?_, ?_⟩
            · have l3 := neuT_len (r := r) (w := wr) (i := j)
              have l1 : (⟨#[cc]⟩ : Str).length = 1 := rfl
              have : (100 : Nat) ≤ sizeLine := by decide
              omega
            walk_at "go"
            rw [ts, cat_snoc]
            exact ⟨_, _, _, _, rfl, z11.trans z12⟩
      · obtain ⟨v2, v8, v9, v10, rfl, z11⟩ := pj
        have e3 : neuT r wr ("01r" : Str).cps.size = neuL r wr := by
          unfold neuT neuL
          rw [show LS3.take ("01r" : Str).cps.size = LS3 by decide +kernel]
        rw [e3]
        have hL11 := z11 _ _ hL
        walk_at "go"
        refine make fun k dx2 H12 n12 h12 s12 => ?_
        refine ⟨k, dx2, r, wr, dv, rfl, h12, hr, hw, hd, fun H13 hk13 e13 => ⟨rfl, ?_⟩⟩
        have s13 : Same H11 H13 := fun b o e => e13 b o (s12 b o e) (ne_of_none e n12)
        walk_at "go"
        refine ⟨k, r, wr, dv, rfl, hk13, hw, fun H14 z14 => ?_⟩
        walk_at "go"
        refine ⟨.str _, .ty "str", .type "str", .type "str", true, rfl, .ty _, .base (.str _), kit_ty (by decide +kernel), _, rfl, ?_⟩
        refine iteN rfl ?_
        walk_at "go"
        rw [cat_join]
        refine iteNS rfl ?_
        walk_at "go"
        have zz := z10.trans (z11.trans (s13.trans z14))
        exact ⟨⟨_, _, _, _, _, _, _, _, _, rfl⟩, (pen9.same zz).mono (by omega)⟩
    · rintro σ H2 ⟨⟨v2, v3, v4, v5, v6, v7, v8, v9, v10, rfl⟩, pen2⟩
      walk_at "go"
      exact q H2
end
end Law

set_option Elab.async false
set_option linter.all false
set_option maxRecDepth 100000
set_option maxHeartbeats 4000000
namespace Law
open PySem PySem.Spec PySem.Calls PyProof.Rows L2 KG
local macro_rules | `(tactic| walk_at "1") => `(tactic| first
  | (with_reducible refine w_var rfl ?_) | (with_reducible refine w_c ?_) | (with_reducible refine w_seq ?_) | (with_reducible refine w_asg ?_) | (with_reducible refine w_gname ?_) | (with_reducible refine w_op ?_) | (with_reducible refine w_un ?_)
  | (with_reducible refine w_add ?_) | (with_reducible refine w_sub ?_) | ((with_reducible refine' w_mod ?mo ?_); (case mo => first | assumption | decide | omega)) | (with_reducible refine w_and ?_) | (with_reducible refine w_or ?_) | (with_reducible refine w_xor ?_)
  | (with_reducible refine w_gt ?_) | (with_reducible refine w_lt ?_) | (with_reducible refine w_ge ?_) | (with_reducible refine w_le ?_) | ((with_reducible refine' w_eq ?sc ?_); (case sc => rfl)) | ((with_reducible refine' w_ne ?sc ?_); (case sc => rfl))
  | (with_reducible refine w_ret ?_) | (with_reducible refine w_next ?_) | (with_reducible refine w_ifs ?_) | (with_reducible refine w_ifx ?_) | (with_reducible refine w_test ?_) | (with_reducible refine w_tB ?_) | (with_reducible refine w_bl ?_)
  | ((with_reducible refine' w_ixL ?ixh ?ixa ?_); (case ixh => first | exact SqL.of (by assumption)); (case ixa => first | rfl | skip)) | ((with_reducible refine' w_ixT ?ixh ?ixa ?_); (case ixh => first | exact SqT.of (by assumption)); (case ixa => first | rfl | skip))
  | ((with_reducible refine' w_fld ?_)) | ((with_reducible refine' fld ?fh ?fc ?fn ?fl ?_); (case fh => assumption); (case fc => assumption); (case fn => assumption); (case fl => rfl)) | (with_reducible refine w_sfld ?_)
  | (with_reducible refine Or.inl ⟨_, rfl, ?_⟩) | (with_reducible refine w_gsub ?_) | (with_reducible refine w_andV ?_) | (with_reducible refine w_orV ?_)
  | (with_reducible refine w_nil ?_) | (with_reducible refine w_cons ?_) | (with_reducible refine w_tup ?_) | (with_reducible refine w_lst ?_) | (with_reducible refine w_and2 ?_) | (with_reducible refine w_or2 ?_) | (with_reducible refine w_not ?_) | (with_reducible refine w_cb ?_) | (with_reducible refine w_call ?_) | (with_reducible refine w_par ?_) | (with_reducible refine w_pnil ?_) | (with_reducible refine w_pcons ?_) | (with_reducible refine w_dput ?_) | (with_reducible refine w_dget ?_) | (with_reducible refine w_for ?_) | (with_reducible refine w_itup ?_) | (with_reducible refine w_ilist ?_) | (with_reducible refine w_irng ?_) | (with_reducible refine w_meth ?_) | (with_reducible refine w_make ?_) | (with_reducible refine w_makeK ?_) | (with_reducible refine w_methK ?_) | ((with_reducible refine' mth ?mh ?ml ?_); (case mh => assumption); (case ml => rfl)) | (with_reducible refine w_drop ?_))
local macro_rules | `(tactic| walk_at "go") => `(tactic| ((repeat (walk_at "1")); try dsimp only))
local macro_rules | `(tactic| walk_at "1") => `(tactic| first
  | (with_reducible refine w_notV ?_) | (with_reducible refine w_callK ?_) | (with_reducible refine w_lc ?_) | (with_reducible refine w_chain ?_) | (with_reducible refine w_neg ?_) | ((with_reducible refine' w_shr ?mo ?_); (case mo => first | assumption | omega)))
theorem ktup {K : PySem.W.Frag} {a : Addr} {dd : Option Addr} {its : Array Value} {n : Nat} {sl : Array (Option Value)} {xs : List V} (h : K.lookup a = some ⟨.type "tuple", dd, .seq its n, sl⟩) (z : Nat.ble its.size 100 = true) (r : Vals xs its.toList) : KTup K a xs :=
  ⟨_, its, n, h, rfl, rfl, Nat.le_trans (Nat.le_of_ble_eq_true z) (by decide), r⟩
theorem all {l : PySem.W.OpenLaw} {w : World} {K : PySem.W.Frag} {h : Heap} {mg : Str → Option Value} {fa : Addr} (X : K.In h) (G : h.Ns mainGlobals mg) (hfa : mg "law" = some (.ref fa))
    {C aW aI aR bW aD : Addr} {mc : Value} {tS : Tok} {tL : Tok} {u2 : Tok} {u3 : Tok} {ddt1 : Option Addr} {nnt1 : Nat} {sst1 : Array (Option Value)} {u5 : Tok} {u6 : Tok} {u7 : Tok} {u8 : Tok} {u9 : Tok} {u10 : Tok} {u11 : Tok} {ddt4 : Option Addr} {nnt4 : Nat} {sst4 : Array (Option Value)} {u13 : Tok} {u14 : Tok} {u15 : Tok} {u16 : Tok} {ddt12 : Option Addr} {nnt12 : Nat} {sst12 : Array (Option Value)} {esW esI : Array DictEntry} {nW_ nI_ : Nat} {w_store w_storea w_storeb : Addr} {ddt17 : Option Addr} {nnt17 : Nat} {sst17 : Array (Option Value)} {u19 : Tok} {u20 : Tok} {ddt18 : Option Addr} {nnt18 : Nat} {sst18 : Array (Option Value)} {u22 : Tok} {u23 : Tok} {ddt21 : Option Addr} {nnt21 : Nat} {sst21 : Array (Option Value)} {w_clear1 w_clear1a w_clear1b : Addr} {ddt24 : Option Addr} {nnt24 : Nat} {sst24 : Array (Option Value)} {u26 : Tok} {u27 : Tok} {ddt25 : Option Addr} {nnt25 : Nat} {sst25 : Array (Option Value)} {u29 : Tok} {u30 : Tok} {ddt28 : Option Addr} {nnt28 : Nat} {sst28 : Array (Option Value)} {w_clear0 w_clear0a w_clear0b : Addr} {ddt31 : Option Addr} {nnt31 : Nat} {sst31 : Array (Option Value)} {u33 : Tok} {u34 : Tok} {ddt32 : Option Addr} {nnt32 : Nat} {sst32 : Array (Option Value)} {u36 : Tok} {u37 : Tok} {ddt35 : Option Addr} {nnt35 : Nat} {sst35 : Array (Option Value)} {w_set1 w_set1a w_set1b : Addr} {ddt38 : Option Addr} {nnt38 : Nat} {sst38 : Array (Option Value)} {u40 : Tok} {u41 : Tok} {ddt39 : Option Addr} {nnt39 : Nat} {sst39 : Array (Option Value)} {u43 : Tok} {u44 : Tok} {ddt42 : Option Addr} {nnt42 : Nat} {sst42 : Array (Option Value)} {w_flip1 w_flip1a w_flip1b : Addr} {ddt45 : Option Addr} {nnt45 : Nat} {sst45 : Array (Option Value)} {u47 : Tok} {u48 : Tok} {ddt46 : Option Addr} {nnt46 : Nat} {sst46 : Array (Option Value)} {u50 : Tok} {u51 : Tok} {ddt49 : Option Addr} {nnt49 : Nat} {sst49 : Array (Option Value)} {w_once w_oncea w_onceb : Addr} {ddt52 : Option Addr} {nnt52 : Nat} {sst52 : Array (Option Value)} {u54 : Tok} {u55 : Tok} {ddt53 : Option Addr} {nnt53 : Nat} {sst53 : Array (Option Value)} {u57 : Tok} {u58 : Tok} {ddt56 : Option Addr} {nnt56 : Nat} {sst56 : Array (Option Value)} {w_none w_nonea w_noneb : Addr} {ddt59 : Option Addr} {nnt59 : Nat} {sst59 : Array (Option Value)} {u61 : Tok} {u62 : Tok} {ddt60 : Option Addr} {nnt60 : Nat} {sst60 : Array (Option Value)} {u64 : Tok} {u65 : Tok} {ddt63 : Option Addr} {nnt63 : Nat} {sst63 : Array (Option Value)} {i_still : Addr} {ddt66 : Option Addr} {nnt66 : Nat} {sst66 : Array (Option Value)} {i_raise : Addr} {u68 : Tok} {ddt67 : Option Addr} {nnt67 : Nat} {sst67 : Array (Option Value)} {i_end : Addr} {u70 : Tok} {ddt69 : Option Addr} {nnt69 : Nat} {sst69 : Array (Option Value)} {i_drift : Addr} {u72 : Tok} {u73 : Tok} {ddt71 : Option Addr} {nnt71 : Nat} {sst71 : Array (Option Value)} {m_Kind_init : Addr} {odv74 anv74 : Option Addr} {slv74 : Array (Option Value)} {ocv74 kVv74 dcv74 pmv74 cdv74 ctv74 : Value} {m_Kind_after_read : Addr} {odv75 anv75 : Option Addr} {slv75 : Array (Option Value)} {ocv75 kVv75 dcv75 pmv75 cdv75 ctv75 : Value} {m_Kind_after_write : Addr} {odv76 anv76 : Option Addr} {slv76 : Array (Option Value)} {ocv76 kVv76 dcv76 pmv76 cdv76 ctv76 : Value} {m_Kind_unguarded : Addr} {odv77 anv77 : Option Addr} {slv77 : Array (Option Value)} {ocv77 kVv77 dcv77 pmv77 cdv77 ctv77 : Value} {f_ends_without_letters : Addr} {odv78 anv78 : Option Addr} {slv78 : Array (Option Value)} {ocv78 kVv78 dcv78 pmv78 cdv78 ctv78 : Value} {f_ends_of_letter : Addr} {odv79 anv79 : Option Addr} {slv79 : Array (Option Value)} {ocv79 kVv79 dcv79 pmv79 cdv79 ctv79 : Value} {f_neutral_letters : Addr} {odv80 anv80 : Option Addr} {slv80 : Array (Option Value)} {ocv80 kVv80 dcv80 pmv80 cdv80 ctv80 : Value} {f__law_pen : Addr} {odv81 anv81 : Option Addr} {slv81 : Array (Option Value)} {ocv81 kVv81 dcv81 pmv81 cdv81 ctv81 : Value} {f__law_draw : Addr} {odv82 anv82 : Option Addr} {slv82 : Array (Option Value)} {ocv82 kVv82 dcv82 pmv82 cdv82 ctv82 : Value} {f__law_behind : Addr} {odv83 anv83 : Option Addr} {slv83 : Array (Option Value)} {ocv83 kVv83 dcv83 pmv83 cdv83 ctv83 : Value} {f_law : Addr} {odv84 anv84 : Option Addr} {slv84 : Array (Option Value)} {ocv84 kVv84 dcv84 pmv84 cdv84 ctv84 : Value}
    (n_Kind : PySem.W.nsIn K mainGlobals "Kind" = some (some (.ref C)))
    (n_WRITES : PySem.W.nsIn K mainGlobals "WRITES" = some (some (.ref aW)))
    (n_INVERTED : PySem.W.nsIn K mainGlobals "INVERTED" = some (some (.ref aI)))
    (n_SPENT : PySem.W.nsIn K mainGlobals "SPENT" = some (some (.int 2 tS)))
    (no_int : PySem.W.nsIn K mainGlobals "int" = some none)
    (no_len : PySem.W.nsIn K mainGlobals "len" = some none)
    (no_abs : PySem.W.nsIn K mainGlobals "abs" = some none)
    (no_list : PySem.W.nsIn K mainGlobals "list" = some none)
    (no_range : PySem.W.nsIn K mainGlobals "range" = some none)
    (no_str : PySem.W.nsIn K mainGlobals "str" = some none)
    (no_tuple : PySem.W.nsIn K mainGlobals "tuple" = some none)
    (no_isinstance : PySem.W.nsIn K mainGlobals "isinstance" = some none)
    (no_max : PySem.W.nsIn K mainGlobals "max" = some none)
    (no_min : PySem.W.nsIn K mainGlobals "min" = some none)
    (n_LETTERS : PySem.W.nsIn K mainGlobals "LETTERS" = some (some (.str "01r" tL)))
    (pg : PySem.W.plainGet K C Str.empty = true)
    (hd : PySem.W.hasDictIn K C = true)
    (po : PySem.W.plainOver K C = true)
    (fd_C_setattr : PySem.W.findIn K (.ref C) "__setattr__" = some (some (.builtin "object.__setattr__")))
    (fd_C_reading : PySem.W.findIn K (.ref C) "reading" = some none)
    (fd_C_writing : PySem.W.findIn K (.ref C) "writing" = some none)
    (fd_C_device : PySem.W.findIn K (.ref C) "device" = some none)
    (fd_C_states : PySem.W.findIn K (.ref C) "states" = some none)
    (fd_C_class : PySem.W.findIn K (.ref C) "__class__" = some (some (.builtin "object.__class__")))
    (isG : PySem.W.specialIn K (.builtin "object.__class__") "__get__" = some (some (.builtin "getset_descriptor.__get__")))
    (isT : PySem.W.takesIn K (.builtin "object.__class__") = some true)
    (isM : PySem.W.mroIn K C (.type "object") = some true)
    (mk : PySem.W.makesIn K C = true)
    (kc : PySem.W.keepIn K (.ref C) = true)
    (mcT : PySem.W.typeIn K (.ref C) = some mc)
    (rdI : PySem.W.readsIn K C mc = true)
    (gaI : PySem.W.specialIn K (.ref C) "__getattribute__" = some (some (.builtin "type.__getattribute__")))
    (v_READINGS : PySem.W.findCls K (.ref C) mc "READINGS" = some (.val (.ref aR)))
    (q_aR : K.lookup aR = some ⟨.type "tuple", ddt1, .seq #[.str "keep" u2, .str "take" u3] nnt1, sst1⟩)
    (v_WRITINGS : PySem.W.findCls K (.ref C) mc "WRITINGS" = some (.val (.ref bW)))
    (q_bW : K.lookup bW = some ⟨.type "tuple", ddt4, .seq #[.str "store" u5, .str "clear1" u6, .str "clear0" u7, .str "set1" u8, .str "flip1" u9, .str "once" u10, .str "none" u11] nnt4, sst4⟩)
    (v_DEVICES : PySem.W.findCls K (.ref C) mc "DEVICES" = some (.val (.ref aD)))
    (q_aD : K.lookup aD = some ⟨.type "tuple", ddt12, .seq #[.str "still" u13, .str "raise" u14, .str "end" u15, .str "drift" u16] nnt12, sst12⟩)
    (lW : K.lookup aW = some ⟨.type "dict", none, .dict esW nW_, #[]⟩)
    (lI : K.lookup aI = some ⟨.type "dict", none, .dict esI nI_, #[]⟩)
    (kW : PySem.W.KeysLit w.params esW.toList)
    (kI : PySem.W.KeysLit w.params esI.toList)
    (g_w_store : PySem.W.nsIn K aW "store" = some (some (.ref w_store)))
    (q_w_store : K.lookup w_store = some ⟨.type "tuple", ddt17, .seq #[.ref w_storea, .ref w_storeb] nnt17, sst17⟩)
    (q_w_storea : K.lookup w_storea = some ⟨.type "tuple", ddt18, .seq #[.int 0 u19, .int 1 u20] nnt18, sst18⟩)
    (q_w_storeb : K.lookup w_storeb = some ⟨.type "tuple", ddt21, .seq #[.int 0 u22, .int 1 u23] nnt21, sst21⟩)
    (g_w_clear1 : PySem.W.nsIn K aW "clear1" = some (some (.ref w_clear1)))
    (q_w_clear1 : K.lookup w_clear1 = some ⟨.type "tuple", ddt24, .seq #[.ref w_clear1a, .ref w_clear1b] nnt24, sst24⟩)
    (q_w_clear1a : K.lookup w_clear1a = some ⟨.type "tuple", ddt25, .seq #[.int 0 u26, .int 0 u27] nnt25, sst25⟩)
    (q_w_clear1b : K.lookup w_clear1b = some ⟨.type "tuple", ddt28, .seq #[.int 1 u29, .int 0 u30] nnt28, sst28⟩)
    (g_w_clear0 : PySem.W.nsIn K aW "clear0" = some (some (.ref w_clear0)))
    (q_w_clear0 : K.lookup w_clear0 = some ⟨.type "tuple", ddt31, .seq #[.ref w_clear0a, .ref w_clear0b] nnt31, sst31⟩)
    (q_w_clear0a : K.lookup w_clear0a = some ⟨.type "tuple", ddt32, .seq #[.int 0 u33, .int 0 u34] nnt32, sst32⟩)
    (q_w_clear0b : K.lookup w_clear0b = some ⟨.type "tuple", ddt35, .seq #[.int 0 u36, .int 1 u37] nnt35, sst35⟩)
    (g_w_set1 : PySem.W.nsIn K aW "set1" = some (some (.ref w_set1)))
    (q_w_set1 : K.lookup w_set1 = some ⟨.type "tuple", ddt38, .seq #[.ref w_set1a, .ref w_set1b] nnt38, sst38⟩)
    (q_w_set1a : K.lookup w_set1a = some ⟨.type "tuple", ddt39, .seq #[.int 0 u40, .int 1 u41] nnt39, sst39⟩)
    (q_w_set1b : K.lookup w_set1b = some ⟨.type "tuple", ddt42, .seq #[.int 1 u43, .int 1 u44] nnt42, sst42⟩)
    (g_w_flip1 : PySem.W.nsIn K aW "flip1" = some (some (.ref w_flip1)))
    (q_w_flip1 : K.lookup w_flip1 = some ⟨.type "tuple", ddt45, .seq #[.ref w_flip1a, .ref w_flip1b] nnt45, sst45⟩)
    (q_w_flip1a : K.lookup w_flip1a = some ⟨.type "tuple", ddt46, .seq #[.int 0 u47, .int 1 u48] nnt46, sst46⟩)
    (q_w_flip1b : K.lookup w_flip1b = some ⟨.type "tuple", ddt49, .seq #[.int 1 u50, .int 0 u51] nnt49, sst49⟩)
    (g_w_once : PySem.W.nsIn K aW "once" = some (some (.ref w_once)))
    (q_w_once : K.lookup w_once = some ⟨.type "tuple", ddt52, .seq #[.ref w_oncea, .ref w_onceb] nnt52, sst52⟩)
    (q_w_oncea : K.lookup w_oncea = some ⟨.type "tuple", ddt53, .seq #[.int 2 u54, .int 3 u55] nnt53, sst53⟩)
    (q_w_onceb : K.lookup w_onceb = some ⟨.type "tuple", ddt56, .seq #[.int 2 u57, .int 3 u58] nnt56, sst56⟩)
    (g_w_none : PySem.W.nsIn K aW "none" = some (some (.ref w_none)))
    (q_w_none : K.lookup w_none = some ⟨.type "tuple", ddt59, .seq #[.ref w_nonea, .ref w_noneb] nnt59, sst59⟩)
    (q_w_nonea : K.lookup w_nonea = some ⟨.type "tuple", ddt60, .seq #[.int 0 u61, .int 0 u62] nnt60, sst60⟩)
    (q_w_noneb : K.lookup w_noneb = some ⟨.type "tuple", ddt63, .seq #[.int 1 u64, .int 1 u65] nnt63, sst63⟩)
    (g_i_still : PySem.W.nsIn K aI "still" = some (some (.ref i_still)))
    (q_i_still : K.lookup i_still = some ⟨.type "tuple", ddt66, .seq #[] nnt66, sst66⟩)
    (g_i_raise : PySem.W.nsIn K aI "raise" = some (some (.ref i_raise)))
    (q_i_raise : K.lookup i_raise = some ⟨.type "tuple", ddt67, .seq #[.int 0 u68] nnt67, sst67⟩)
    (g_i_end : PySem.W.nsIn K aI "end" = some (some (.ref i_end)))
    (q_i_end : K.lookup i_end = some ⟨.type "tuple", ddt69, .seq #[.int 1 u70] nnt69, sst69⟩)
    (g_i_drift : PySem.W.nsIn K aI "drift" = some (some (.ref i_drift)))
    (q_i_drift : K.lookup i_drift = some ⟨.type "tuple", ddt71, .seq #[.int 0 u72, .int 1 u73] nnt71, sst71⟩)
    (a_Kind___init__ : PySem.W.findIn K (.ref C) "__init__" = some (some (.ref m_Kind_init)))
    (i_Kind___init__ : PySem.W.isFn K (.ref m_Kind_init) = true)
    (l_Kind___init__ : K.lookup m_Kind_init = some ⟨ocv74, odv74, .func (PySem.W.fnOf "__init__" "Kind.__init__" (defArgs s_Kind___init__) (defBody s_Kind___init__) (defScope s_Kind___init__) .none kVv74 dcv74 pmv74 anv74 cdv74 ctv74), slv74⟩)
    (c_Kind___init__ : PySem.W.codeIn K cdv74 "Kind.__init__" = true)
    (k_Kind___init__ : PySem.W.keepIn K (.ref m_Kind_init) = true)
    (a_Kind_after_read : PySem.W.findIn K (.ref C) "after_read" = some (some (.ref m_Kind_after_read)))
    (i_Kind_after_read : PySem.W.isFn K (.ref m_Kind_after_read) = true)
    (l_Kind_after_read : K.lookup m_Kind_after_read = some ⟨ocv75, odv75, .func (PySem.W.fnOf "after_read" "Kind.after_read" (defArgs s_Kind_after_read) (defBody s_Kind_after_read) (defScope s_Kind_after_read) .none kVv75 dcv75 pmv75 anv75 cdv75 ctv75), slv75⟩)
    (c_Kind_after_read : PySem.W.codeIn K cdv75 "Kind.after_read" = true)
    (k_Kind_after_read : PySem.W.keepIn K (.ref m_Kind_after_read) = true)
    (a_Kind_after_write : PySem.W.findIn K (.ref C) "after_write" = some (some (.ref m_Kind_after_write)))
    (i_Kind_after_write : PySem.W.isFn K (.ref m_Kind_after_write) = true)
    (l_Kind_after_write : K.lookup m_Kind_after_write = some ⟨ocv76, odv76, .func (PySem.W.fnOf "after_write" "Kind.after_write" (defArgs s_Kind_after_write) (defBody s_Kind_after_write) (defScope s_Kind_after_write) .none kVv76 dcv76 pmv76 anv76 cdv76 ctv76), slv76⟩)
    (c_Kind_after_write : PySem.W.codeIn K cdv76 "Kind.after_write" = true)
    (k_Kind_after_write : PySem.W.keepIn K (.ref m_Kind_after_write) = true)
    (a_Kind_unguarded : PySem.W.findIn K (.ref C) "unguarded" = some (some (.ref m_Kind_unguarded)))
    (i_Kind_unguarded : PySem.W.isFn K (.ref m_Kind_unguarded) = true)
    (l_Kind_unguarded : K.lookup m_Kind_unguarded = some ⟨ocv77, odv77, .func (PySem.W.fnOf "unguarded" "Kind.unguarded" (defArgs s_Kind_unguarded) (defBody s_Kind_unguarded) (defScope s_Kind_unguarded) .none kVv77 dcv77 pmv77 anv77 cdv77 ctv77), slv77⟩)
    (c_Kind_unguarded : PySem.W.codeIn K cdv77 "Kind.unguarded" = true)
    (k_Kind_unguarded : PySem.W.keepIn K (.ref m_Kind_unguarded) = true)
    (n_ends_without_letters : PySem.W.nsIn K mainGlobals "ends_without_letters" = some (some (.ref f_ends_without_letters)))
    (l_ends_without_letters : K.lookup f_ends_without_letters = some ⟨ocv78, odv78, .func (PySem.W.fnOf "ends_without_letters" "ends_without_letters" (defArgs s_ends_without_letters) (defBody s_ends_without_letters) (defScope s_ends_without_letters) .none kVv78 dcv78 pmv78 anv78 cdv78 ctv78), slv78⟩)
    (c_ends_without_letters : PySem.W.codeIn K cdv78 "ends_without_letters" = true)
    (k_ends_without_letters : PySem.W.keepIn K (.ref f_ends_without_letters) = true)
    (n_ends_of_letter : PySem.W.nsIn K mainGlobals "ends_of_letter" = some (some (.ref f_ends_of_letter)))
    (l_ends_of_letter : K.lookup f_ends_of_letter = some ⟨ocv79, odv79, .func (PySem.W.fnOf "ends_of_letter" "ends_of_letter" (defArgs s_ends_of_letter) (defBody s_ends_of_letter) (defScope s_ends_of_letter) .none kVv79 dcv79 pmv79 anv79 cdv79 ctv79), slv79⟩)
    (c_ends_of_letter : PySem.W.codeIn K cdv79 "ends_of_letter" = true)
    (k_ends_of_letter : PySem.W.keepIn K (.ref f_ends_of_letter) = true)
    (n_neutral_letters : PySem.W.nsIn K mainGlobals "neutral_letters" = some (some (.ref f_neutral_letters)))
    (l_neutral_letters : K.lookup f_neutral_letters = some ⟨ocv80, odv80, .func (PySem.W.fnOf "neutral_letters" "neutral_letters" (defArgs s_neutral_letters) (defBody s_neutral_letters) (defScope s_neutral_letters) .none kVv80 dcv80 pmv80 anv80 cdv80 ctv80), slv80⟩)
    (c_neutral_letters : PySem.W.codeIn K cdv80 "neutral_letters" = true)
    (k_neutral_letters : PySem.W.keepIn K (.ref f_neutral_letters) = true)
    (n__law_pen : PySem.W.nsIn K mainGlobals "_law_pen" = some (some (.ref f__law_pen)))
    (l__law_pen : K.lookup f__law_pen = some ⟨ocv81, odv81, .func (PySem.W.fnOf "_law_pen" "_law_pen" (defArgs s__law_pen) (defBody s__law_pen) (defScope s__law_pen) .none kVv81 dcv81 pmv81 anv81 cdv81 ctv81), slv81⟩)
    (c__law_pen : PySem.W.codeIn K cdv81 "_law_pen" = true)
    (k__law_pen : PySem.W.keepIn K (.ref f__law_pen) = true)
    (n__law_draw : PySem.W.nsIn K mainGlobals "_law_draw" = some (some (.ref f__law_draw)))
    (l__law_draw : K.lookup f__law_draw = some ⟨ocv82, odv82, .func (PySem.W.fnOf "_law_draw" "_law_draw" (defArgs s__law_draw) (defBody s__law_draw) (defScope s__law_draw) .none kVv82 dcv82 pmv82 anv82 cdv82 ctv82), slv82⟩)
    (c__law_draw : PySem.W.codeIn K cdv82 "_law_draw" = true)
    (k__law_draw : PySem.W.keepIn K (.ref f__law_draw) = true)
    (n__law_behind : PySem.W.nsIn K mainGlobals "_law_behind" = some (some (.ref f__law_behind)))
    (l__law_behind : K.lookup f__law_behind = some ⟨ocv83, odv83, .func (PySem.W.fnOf "_law_behind" "_law_behind" (defArgs s__law_behind) (defBody s__law_behind) (defScope s__law_behind) .none kVv83 dcv83 pmv83 anv83 cdv83 ctv83), slv83⟩)
    (c__law_behind : PySem.W.codeIn K cdv83 "_law_behind" = true)
    (k__law_behind : PySem.W.keepIn K (.ref f__law_behind) = true)
    (n_law : PySem.W.nsIn K mainGlobals "law" = some (some (.ref f_law)))
    (l_law : K.lookup f_law = some ⟨ocv84, odv84, .func (PySem.W.fnOf "law" "law" (defArgs s_law) (defBody s_law) (defScope s_law) .none kVv84 dcv84 pmv84 anv84 cdv84 ctv84), slv84⟩)
    (c_law : PySem.W.codeIn K cdv84 "law" = true)
    (k_law : PySem.W.keepIn K (.ref f_law) = true) :
    ∃ fd : FuncData, (∀ (s : Shared) (v : Value), BindsTo s fd ⟨[v], []⟩ [("_law_script", v)]) ∧ ∀ base : Heap, K.In base → base.Ns mainGlobals mg → Gd l.prog w K mg base CX0 6 fa fd ["_law_script"] (spLaw K) := by
  have e := hfa.symm.trans (PySem.W.mg_of X G n_law)
  cases e
  have B : Bi mg := ⟨PySem.W.mg_none_of X G no_int, PySem.W.mg_none_of X G no_len, PySem.W.mg_none_of X G no_abs, PySem.W.mg_none_of X G no_list, PySem.W.mg_none_of X G no_range, PySem.W.mg_none_of X G no_str, PySem.W.mg_none_of X G no_tuple, PySem.W.mg_none_of X G no_isinstance⟩
  have T : KT K w mg C aW aI mc := {
    g_Kind := PySem.W.mg_of X G n_Kind
    g_SPENT := ⟨_, PySem.W.mg_of X G n_SPENT⟩
    g_WRITES := PySem.W.mg_of X G n_WRITES
    g_INVERTED := PySem.W.mg_of X G n_INVERTED
    g_isinstance := PySem.W.mg_none_of X G no_isinstance
    cl := ⟨pg, hd, po, fd_C_setattr⟩
    nR := fd_C_reading
    nW := fd_C_writing
    nD := fd_C_device
    nS := fd_C_states
    rd := ⟨rdI, gaI⟩
    cR := ⟨aR, ⟨v_READINGS, rfl⟩, ktup q_aR rfl (.cons ⟨_, rfl⟩ (.cons ⟨_, rfl⟩ (.nil)))⟩
    cW := ⟨bW, ⟨v_WRITINGS, rfl⟩, ktup q_bW rfl (.cons ⟨_, rfl⟩ (.cons ⟨_, rfl⟩ (.cons ⟨_, rfl⟩ (.cons ⟨_, rfl⟩ (.cons ⟨_, rfl⟩ (.cons ⟨_, rfl⟩ (.cons ⟨_, rfl⟩ (.nil))))))))⟩
    cD := ⟨aD, ⟨v_DEVICES, rfl⟩, ktup q_aD rfl (.cons ⟨_, rfl⟩ (.cons ⟨_, rfl⟩ (.cons ⟨_, rfl⟩ (.cons ⟨_, rfl⟩ (.nil)))))⟩
    tW := fun x hx => by
      simp only [WR, List.mem_cons, List.not_mem_nil, or_false] at hx
      rcases hx with rfl | rfl | rfl | rfl | rfl | rfl | rfl
      · exact ⟨w_store, w_storea, w_storeb, ⟨esW, nW_, _, lW, kW, g_w_store, rfl⟩, ktup q_w_store rfl (.cons rfl (.cons rfl .nil)), ktup q_w_storea rfl (.cons ⟨_, rfl⟩ (.cons ⟨_, rfl⟩ .nil)), ktup q_w_storeb rfl (.cons ⟨_, rfl⟩ (.cons ⟨_, rfl⟩ .nil))⟩
      · exact ⟨w_clear1, w_clear1a, w_clear1b, ⟨esW, nW_, _, lW, kW, g_w_clear1, rfl⟩, ktup q_w_clear1 rfl (.cons rfl (.cons rfl .nil)), ktup q_w_clear1a rfl (.cons ⟨_, rfl⟩ (.cons ⟨_, rfl⟩ .nil)), ktup q_w_clear1b rfl (.cons ⟨_, rfl⟩ (.cons ⟨_, rfl⟩ .nil))⟩
      · exact ⟨w_clear0, w_clear0a, w_clear0b, ⟨esW, nW_, _, lW, kW, g_w_clear0, rfl⟩, ktup q_w_clear0 rfl (.cons rfl (.cons rfl .nil)), ktup q_w_clear0a rfl (.cons ⟨_, rfl⟩ (.cons ⟨_, rfl⟩ .nil)), ktup q_w_clear0b rfl (.cons ⟨_, rfl⟩ (.cons ⟨_, rfl⟩ .nil))⟩
      · exact ⟨w_set1, w_set1a, w_set1b, ⟨esW, nW_, _, lW, kW, g_w_set1, rfl⟩, ktup q_w_set1 rfl (.cons rfl (.cons rfl .nil)), ktup q_w_set1a rfl (.cons ⟨_, rfl⟩ (.cons ⟨_, rfl⟩ .nil)), ktup q_w_set1b rfl (.cons ⟨_, rfl⟩ (.cons ⟨_, rfl⟩ .nil))⟩
      · exact ⟨w_flip1, w_flip1a, w_flip1b, ⟨esW, nW_, _, lW, kW, g_w_flip1, rfl⟩, ktup q_w_flip1 rfl (.cons rfl (.cons rfl .nil)), ktup q_w_flip1a rfl (.cons ⟨_, rfl⟩ (.cons ⟨_, rfl⟩ .nil)), ktup q_w_flip1b rfl (.cons ⟨_, rfl⟩ (.cons ⟨_, rfl⟩ .nil))⟩
      · exact ⟨w_once, w_oncea, w_onceb, ⟨esW, nW_, _, lW, kW, g_w_once, rfl⟩, ktup q_w_once rfl (.cons rfl (.cons rfl .nil)), ktup q_w_oncea rfl (.cons ⟨_, rfl⟩ (.cons ⟨_, rfl⟩ .nil)), ktup q_w_onceb rfl (.cons ⟨_, rfl⟩ (.cons ⟨_, rfl⟩ .nil))⟩
      · exact ⟨w_none, w_nonea, w_noneb, ⟨esW, nW_, _, lW, kW, g_w_none, rfl⟩, ktup q_w_none rfl (.cons rfl (.cons rfl .nil)), ktup q_w_nonea rfl (.cons ⟨_, rfl⟩ (.cons ⟨_, rfl⟩ .nil)), ktup q_w_noneb rfl (.cons ⟨_, rfl⟩ (.cons ⟨_, rfl⟩ .nil))⟩
    tI := fun x hx => by
      simp only [DV, List.mem_cons, List.not_mem_nil, or_false] at hx
      rcases hx with rfl | rfl | rfl | rfl
      · exact ⟨i_still, ⟨esI, nI_, _, lI, kI, g_i_still, rfl⟩, ktup q_i_still rfl (.nil)⟩
      · exact ⟨i_raise, ⟨esI, nI_, _, lI, kI, g_i_raise, rfl⟩, ktup q_i_raise rfl (.cons ⟨_, rfl⟩ (.nil))⟩
      · exact ⟨i_end, ⟨esI, nI_, _, lI, kI, g_i_end, rfl⟩, ktup q_i_end rfl (.cons ⟨_, rfl⟩ (.nil))⟩
      · exact ⟨i_drift, ⟨esI, nI_, _, lI, kI, g_i_drift, rfl⟩, ktup q_i_drift rfl (.cons ⟨_, rfl⟩ (.cons ⟨_, rfl⟩ (.nil)))⟩
    isC := fd_C_class
    isG := isG
    isT := isT
    isM := isM }
  refine ⟨PySem.W.fnOf "law" "law" (defArgs s_law) (defBody s_law) (defScope s_law) .none kVv84 dcv84 pmv84 anv84 cdv84 ctv84, fun s v => .of_eq rfl, fun base _ _ => ?_⟩
  have Dends_without_letters := defAt_of X G n_ends_without_letters l_ends_without_letters c_ends_without_letters k_ends_without_letters bd_ends_without_letters
  have Dends_of_letter := defAt_of X G n_ends_of_letter l_ends_of_letter c_ends_of_letter k_ends_of_letter bd_ends_of_letter
  have Dneutral_letters := defAt_of X G n_neutral_letters l_neutral_letters c_neutral_letters k_neutral_letters bd_neutral_letters
  have D_law_pen := defAt_of X G n__law_pen l__law_pen c__law_pen k__law_pen bd__law_pen
  have D_law_draw := defAt_of X G n__law_draw l__law_draw c__law_draw k__law_draw bd__law_draw
  have D_law_behind := defAt_of X G n__law_behind l__law_behind c__law_behind k__law_behind bd__law_behind
  have M_init := metAt_of a_Kind___init__ i_Kind___init__ l_Kind___init__ c_Kind___init__ k_Kind___init__ bd_Kind___init__
  have M_after_read := metAt_of a_Kind_after_read i_Kind_after_read l_Kind_after_read c_Kind_after_read k_Kind_after_read bd_Kind_after_read
  have M_after_write := metAt_of a_Kind_after_write i_Kind_after_write l_Kind_after_write c_Kind_after_write k_Kind_after_write bd_Kind_after_write
  have M_unguarded := metAt_of a_Kind_unguarded i_Kind_unguarded l_Kind_unguarded c_Kind_unguarded k_Kind_unguarded bd_Kind_unguarded
  obtain ⟨fd1, x1, F1, b1, G1⟩ := ok_IN (P := l.prog) (base := base) M_init T
  obtain ⟨fd2, x2, F2, b2, G2⟩ := ok_AR (P := l.prog) (base := base) M_after_read T
  obtain ⟨fd3, x3, F3, b3, G3⟩ := ok_UN (P := l.prog) (base := base) M_unguarded T
  obtain ⟨fd4, x4, F4, b4, G4⟩ := ok_AW (P := l.prog) (base := base) M_after_write T ⟨fd3, _, x3, b3, G3⟩
  have mAR : Met l.prog w K mg base 1 C "after_read" _ (spAR C) := ⟨fd2, _, x2, b2, G2⟩
  have mAW : Met l.prog w K mg base 2 C "after_write" _ (spAW C) := ⟨fd4, _, x4, b4, G4⟩
  have c1 := ok_draw (P := l.prog) (w := w) (base := base) D_law_draw B
  have c2 := ok_pen (P := l.prog) (w := w) (base := base) D_law_pen B
  have c3 := ok_ew (P := l.prog) (w := w) (base := base) Dends_without_letters T B
  have c4 := ok_el (P := l.prog) (w := w) (base := base) Dends_of_letter T B mAR mAW
  have c5 := ok_neu (P := l.prog) (w := w) (base := base) Dneutral_letters (PySem.W.mg_of X G n_LETTERS) c3 c4
  have c6 := ok_beh (P := l.prog) (w := w) (base := base) D_law_behind B (PySem.W.mg_none_of X G no_max)
  exact ok_law (fun_mk (st := s_law) l_law c_law k_law) T B (PySem.W.mg_none_of X G no_max) (PySem.W.mg_none_of X G no_min) c2 c1 c6 c5 ⟨mk, a_Kind___init__, i_Kind___init__, kc⟩ G1 b1
end Law
open PySem PySem.W PyProof.Rows
set_option maxRecDepth 100000 in
set_option maxHeartbeats 0 in
theorem PySem.Challenge.cw_keptbits_k26_neutral_letters_holds : PySem.Challenge.rw_keptbits_k26_neutral_letters.Holds := by
  w_on; o_law; k_head; (case hw => w_witness2)
  k_fill
  refine KG.walk_gdK (CX := L2.CX0) (sp := Law.spLaw) (k := 6) (n := 63) (x := "_law_script") (l := PySem.Challenge.rw_keptbits_k26_neutral_letters) rfl (by decide) rfl ⟨rfl, by decide, by decide⟩ (fun w h Y => PySem.W.kIn_of Y) ?F ?g1 ?g2
  case g1 => exact fun K H a ns hl _ hS => ⟨a, ns, rfl, hS, hl, fun _ => rfl⟩
  case g2 => exact fun _ _ _ _ z => z
  case F =>
    intro w mg fa h KX G hmg
    refine' Law.all KX G hmg ?n_Kind ?n_WRITES ?n_INVERTED ?n_SPENT ?no_int ?no_len ?no_abs ?no_list ?no_range ?no_str ?no_tuple ?no_isinstance ?no_max ?no_min ?n_LETTERS ?pg ?hd ?po ?fd_C_setattr ?fd_C_reading ?fd_C_writing ?fd_C_device ?fd_C_states ?fd_C_class ?isG ?isT ?isM ?mk ?kc ?mcT ?rdI ?gaI ?v_READINGS ?q_aR ?v_WRITINGS ?q_bW ?v_DEVICES ?q_aD ?lW ?lI ?kW ?kI ?g_w_store ?q_w_store ?q_w_storea ?q_w_storeb ?g_w_clear1 ?q_w_clear1 ?q_w_clear1a ?q_w_clear1b ?g_w_clear0 ?q_w_clear0 ?q_w_clear0a ?q_w_clear0b ?g_w_set1 ?q_w_set1 ?q_w_set1a ?q_w_set1b ?g_w_flip1 ?q_w_flip1 ?q_w_flip1a ?q_w_flip1b ?g_w_once ?q_w_once ?q_w_oncea ?q_w_onceb ?g_w_none ?q_w_none ?q_w_nonea ?q_w_noneb ?g_i_still ?q_i_still ?g_i_raise ?q_i_raise ?g_i_end ?q_i_end ?g_i_drift ?q_i_drift ?a_Kind___init__ ?i_Kind___init__ ?l_Kind___init__ ?c_Kind___init__ ?k_Kind___init__ ?a_Kind_after_read ?i_Kind_after_read ?l_Kind_after_read ?c_Kind_after_read ?k_Kind_after_read ?a_Kind_after_write ?i_Kind_after_write ?l_Kind_after_write ?c_Kind_after_write ?k_Kind_after_write ?a_Kind_unguarded ?i_Kind_unguarded ?l_Kind_unguarded ?c_Kind_unguarded ?k_Kind_unguarded ?n_ends_without_letters ?l_ends_without_letters ?c_ends_without_letters ?k_ends_without_letters ?n_ends_of_letter ?l_ends_of_letter ?c_ends_of_letter ?k_ends_of_letter ?n_neutral_letters ?l_neutral_letters ?c_neutral_letters ?k_neutral_letters ?n__law_pen ?l__law_pen ?c__law_pen ?k__law_pen ?n__law_draw ?l__law_draw ?c__law_draw ?k__law_draw ?n__law_behind ?l__law_behind ?c__law_behind ?k__law_behind ?n_law ?l_law ?c_law ?k_law
    (case n_Kind => k_is)
    (case n_WRITES => k_is)
    (case n_INVERTED => k_is)
    (case n_SPENT => k_is)
    (case no_int => k_is)
    (case no_len => k_is)
    (case no_abs => k_is)
    (case no_list => k_is)
    (case no_range => k_is)
    (case no_str => k_is)
    (case no_tuple => k_is)
    (case no_isinstance => k_is)
    (case no_max => k_is)
    (case no_min => k_is)
    (case n_LETTERS => k_is)
    (case pg => k_is)
    (case hd => k_is)
    (case po => k_is)
    (case fd_C_setattr => k_is)
    (case fd_C_reading => k_is)
    (case fd_C_writing => k_is)
    (case fd_C_device => k_is)
    (case fd_C_states => k_is)
    (case fd_C_class => k_is)
    (case isG => k_is)
    (case isT => k_is)
    (case isM => k_is)
    (case mk => k_is)
    (case kc => k_is)
    (case mcT => k_is)
    (case rdI => k_is)
    (case gaI => k_is)
    (case v_READINGS => k_is)
    (case q_aR => k_is)
    (case v_WRITINGS => k_is)
    (case q_bW => k_is)
    (case v_DEVICES => k_is)
    (case q_aD => k_is)
    (case lW => k_is)
    (case lI => k_is)
    (case kW => repeat (first | exact True.intro | refine ⟨⟨_, _, rfl, rfl⟩, ?_⟩))
    (case kI => repeat (first | exact True.intro | refine ⟨⟨_, _, rfl, rfl⟩, ?_⟩))
    (case g_w_store => k_is)
    (case q_w_store => k_is)
    (case q_w_storea => k_is)
    (case q_w_storeb => k_is)
    (case g_w_clear1 => k_is)
    (case q_w_clear1 => k_is)
    (case q_w_clear1a => k_is)
    (case q_w_clear1b => k_is)
    (case g_w_clear0 => k_is)
    (case q_w_clear0 => k_is)
    (case q_w_clear0a => k_is)
    (case q_w_clear0b => k_is)
    (case g_w_set1 => k_is)
    (case q_w_set1 => k_is)
    (case q_w_set1a => k_is)
    (case q_w_set1b => k_is)
    (case g_w_flip1 => k_is)
    (case q_w_flip1 => k_is)
    (case q_w_flip1a => k_is)
    (case q_w_flip1b => k_is)
    (case g_w_once => k_is)
    (case q_w_once => k_is)
    (case q_w_oncea => k_is)
    (case q_w_onceb => k_is)
    (case g_w_none => k_is)
    (case q_w_none => k_is)
    (case q_w_nonea => k_is)
    (case q_w_noneb => k_is)
    (case g_i_still => k_is)
    (case q_i_still => k_is)
    (case g_i_raise => k_is)
    (case q_i_raise => k_is)
    (case g_i_end => k_is)
    (case q_i_end => k_is)
    (case g_i_drift => k_is)
    (case q_i_drift => k_is)
    (case a_Kind___init__ => k_is)
    (case i_Kind___init__ => k_is)
    (case l_Kind___init__ => k_is)
    (case c_Kind___init__ => k_is)
    (case k_Kind___init__ => k_is)
    (case a_Kind_after_read => k_is)
    (case i_Kind_after_read => k_is)
    (case l_Kind_after_read => k_is)
    (case c_Kind_after_read => k_is)
    (case k_Kind_after_read => k_is)
    (case a_Kind_after_write => k_is)
    (case i_Kind_after_write => k_is)
    (case l_Kind_after_write => k_is)
    (case c_Kind_after_write => k_is)
    (case k_Kind_after_write => k_is)
    (case a_Kind_unguarded => k_is)
    (case i_Kind_unguarded => k_is)
    (case l_Kind_unguarded => k_is)
    (case c_Kind_unguarded => k_is)
    (case k_Kind_unguarded => k_is)
    (case n_ends_without_letters => k_is)
    (case l_ends_without_letters => k_is)
    (case c_ends_without_letters => k_is)
    (case k_ends_without_letters => k_is)
    (case n_ends_of_letter => k_is)
    (case l_ends_of_letter => k_is)
    (case c_ends_of_letter => k_is)
    (case k_ends_of_letter => k_is)
    (case n_neutral_letters => k_is)
    (case l_neutral_letters => k_is)
    (case c_neutral_letters => k_is)
    (case k_neutral_letters => k_is)
    (case n__law_pen => k_is)
    (case l__law_pen => k_is)
    (case c__law_pen => k_is)
    (case k__law_pen => k_is)
    (case n__law_draw => k_is)
    (case l__law_draw => k_is)
    (case c__law_draw => k_is)
    (case k__law_draw => k_is)
    (case n__law_behind => k_is)
    (case l__law_behind => k_is)
    (case c__law_behind => k_is)
    (case k__law_behind => k_is)
    (case n_law => k_is)
    (case l_law => k_is)
    (case c_law => k_is)
    (case k_law => k_is)
#print axioms PySem.Challenge.cw_keptbits_k26_neutral_letters_holds
