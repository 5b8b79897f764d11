import PyProof.Rows.All
import Wide.All
import OpenK.AllK
import Wide.FinOn
import HandS.ForMost
import HandS.ForExc
import HandS.MakeKw
import HandS.FStr
import HandS.Conv
import HandS.ClsMeth
import KE.KCallOwn
import HandS.IsInst
import PyProof.InstEq
import HandS.Lambda
import HandS.ExcInit
import HandS.ExcIs
import HandS.ExcField
import KE.KExcIs
import KE.KExcSuper
import KE.KExcMake
import HandS.EndTab
import HandS.EndOwn
import HandS.NestedK
import PyProof.P3In
import PyProof.FactsAll.dict_1
import HandS.TupAny
import HandS.Zip
import PySem.Challenge.RW_keptbits_k08_kinds_refused_and_compared
set_option Elab.async false
set_option linter.all false
set_option maxRecDepth 100000
set_option maxHeartbeats 4000000
/-! KG: defs that are promised something where nothing is being shown (no repr under way), so that repr of data is an exact text. -/
namespace KG
open PySem PySem.Spec PyProof.Rows L2

/-- the promise of a def, for callers around which nothing is being shown -/
structure Gd (P : Program) (w : World) (K : PySem.W.Frag) (mg : Str → Option Value) (base : Heap) (CX : CXT) (k : Nat) (f : Addr) (fd : FuncData) (ps : List Str) (sp : Sp) : Prop where
  len : ∀ vs H Q E, sp vs H Q E → vs.length = ps.length
  go : ∀ (A : Around) (outer : List Env) (s : Shared) (H : Hp) (args : Args) (us : List Value) (vs : List V) (Q : VK) (E : XK),
    Room k A → A.guards = some [] → Env0 P w K mg base A outer s H → BindsTo s fd args (ps.zip us) → Vals vs us → sp vs H Q E →
    codeAny (model P w) A (.call (.ref f) args) (CR CX outer P w H s Q E) s

section
variable {P : Program} {w : World} {K : PySem.W.Frag} {mg : Str → Option Value} {base : Heap} {CX : CXT} {k j : Nat} {f : Addr} {fd : FuncData} {ps : List Str} {sp sp' : Sp}
theorem Gd.mono (F : Gd P w K mg base CX j f fd ps sp) (h : j ≤ k) : Gd P w K mg base CX k f fd ps sp :=
  ⟨F.len, fun A o s H a us vs Q E rm => F.go A o s H a us vs Q E (rm.mono h)⟩
theorem Gd.imp (F : Gd P w K mg base CX k f fd ps sp) (h : ∀ vs H Q E, sp' vs H Q E → sp vs H Q E) : Gd P w K mg base CX k f fd ps sp' :=
  ⟨fun vs H Q E q => F.len vs H Q E (h _ _ _ _ q), fun A o s H a us vs Q E rm gd e0 bt rv q => F.go A o s H a us vs Q E rm gd e0 bt rv (h _ _ _ _ q)⟩
theorem Gd.of_ok (F : FnOk P w K mg base CX k f fd ps sp) : Gd P w K mg base CX k f fd ps sp :=
  ⟨F.len, fun A o s H a us vs Q E rm _ e0 bt rv q => F.run A o s H a us vs Q E rm e0 bt rv q⟩

/-- a def by its body -/
theorem gd_of {name qual : Str} {params : Arguments} {body : List Stmt} {scope : Scope} {dV kV doc pm cdv ct oc : Value} {an od : Option Addr}
    {osl : Array (Option Value)} {N : List Str}
    (found : K.lookup f = some ⟨oc, od, .func (PySem.W.fnOf name qual params body scope dV kV doc pm an cdv ct), osl⟩)
    (code : PySem.W.codeIn K cdv qual = true) (sc : FnScope N ps scope) (len : ∀ vs H Q E, sp vs H Q E → vs.length = ps.length)
    (inner : ∀ (A : Around) (outer : List Env) (s : Shared) (H : Hp) (vs : List V) (Q : VK) (E : XK),
      Room k (A.deeper (envOfC qual scope s.heap.objs.size f cdv)) → (A.deeper (envOfC qual scope s.heap.objs.size f cdv)).guards = some [] → sp vs H Q E →
      ∃ t, PSs (cxOf CX P w K mg base N qual scope f cdv A outer s H E) body t ∧ t { nx := fun _ H' => Q .non H', rt := Q } (start N vs) H) :
    Gd P w K mg base CX (k + 1) f (PySem.W.fnOf name qual params body scope dV kV doc pm an cdv ct) ps sp := by
  refine ⟨len, fun A outer s H args us vs Q E rm gd e0 bt rv q0 => ?_⟩
  have llen := len _ _ _ _ q0
  have kin : K.In s.heap := e0.mod.kin.keeps fun b o e => (e0.bs b o e).1
  have nolim : s.heap.NoLimit := e0.mod.nolimit.keeps fun b o e => (e0.bs b o e).1
  have kinds : ∀ y ∈ ps.zip us, scope.names.lookup y.1 = some .local ∨
      (scope.names.lookup y.1 = some .cell ∧ ((cellsFrom (s.heap.objs.size + 1) scope.names []).lookup y.1).isSome = true) := by
    intro ⟨n, v⟩ hy
    rcases sc.par n (List.of_mem_zip hy).1 with z | z
    · exact .inl z
    · exact .inr ⟨z, PySem.W.cellsFrom_some _ _ _ (.inl z)⟩
  refine codeAny_call_function rm.depth (kin _ _ found) rfl sc.co sc.gen rfl (PySem.W.codeRec_of kin code) (bt _ _ _ _ ?_)
  refine wpAny_newFunctionEnv_cells sc.kind kinds fun env he s1 x => ?_
  subst he
  refine ⟨nolim.keeps x.toInCall.keep, codeAny_func ?_⟩
  obtain ⟨t, ht, hq⟩ := inner A outer s H vs Q E (rm.deeper _) gd q0
  have I := inv_start (CX := CX) (E := E) sc rm.hd e0 llen rv x
  refine wpAny_mono (ht.run [] s1 (start N vs) H _ I hq) (fun fl s' hs => ?_) fun e s' hs => hs
  have done : ∀ {σ' : L2.St} {H' : Hp} {v : V} {u : Value}, Inv (cxOf CX P w K mg base N qual scope f cdv A outer s H E) [] σ' H' s' → RelV v u → Q v H' → CE outer P w H s Q u s' :=
    fun {σ' H' v u} J r q => ⟨v, H', J.os, J.bare, J.base, J.hok, r, q⟩
  cases fl with
  | ret u =>
    obtain ⟨v, σ', H', J, r, q⟩ := hs
    exact done J r q
  | next =>
    obtain ⟨σ', H', J, q⟩ := hs
    exact done (v := V.non) (u := Value.none) J rfl q
  | brk => exact hs.elim fun _ h => h.elim fun _ h => False.elim h.2
  | cont => exact hs.elim fun _ h => h.elim fun _ h => False.elim h.2

/-- a def of the text that raises nothing, by its body -/
theorem gd0 {x qual : Str} {st : Stmt} {N : List Str} (F : Fun K x qual st f fd) (sc : FnScope N ps (defScope st)) (len : ∀ vs H Q E, sp vs H Q E → vs.length = ps.length)
    (inner : ∀ (cdv : Value) (A : Around) (outer : List Env) (s : Shared) (H : Hp) (vs : List V) (Q : VK) (E : XK),
      Room k (A.deeper (envOfC qual (defScope st) s.heap.objs.size f cdv)) → (A.deeper (envOfC qual (defScope st) s.heap.objs.size f cdv)).guards = some [] → sp vs H Q E →
      ∃ t, PSs (cxOf CX0 P w K mg base N qual (defScope st) f cdv A outer s H E).nox (defBody st) t ∧ t { nx := fun _ H' => Q .non H', rt := Q } (start N vs) H) :
    Gd P w K mg base CX0 (k + 1) f fd ps sp := by
  obtain ⟨oc, od, kV, doc, pm, an, cdv, ct, osl, rfl, found, code⟩ := F.ex
  exact gd_of found code sc len fun A outer s H vs Q E rm gd q => (inner cdv A outer s H vs Q E rm gd q).elim fun t h => ⟨t, h.1.nox, h.2⟩
/-- a def of the text that may raise, by its body -/
theorem gdX {x qual : Str} {st : Stmt} {N : List Str} (F : Fun K x qual st f fd) (sc : FnScope N ps (defScope st)) (len : ∀ vs H Q E, sp vs H Q E → vs.length = ps.length)
    (inner : ∀ (cdv : Value) (A : Around) (outer : List Env) (s : Shared) (H : Hp) (vs : List V) (Q : VK) (E : XK),
      Room k (A.deeper (envOfC qual (defScope st) s.heap.objs.size f cdv)) → (A.deeper (envOfC qual (defScope st) s.heap.objs.size f cdv)).guards = some [] → sp vs H Q E →
      ∃ t, PSs (cxOf (L2.CX P w) P w K mg base N qual (defScope st) f cdv A outer s H E) (defBody st) t ∧ t { nx := fun _ H' => Q .non H', rt := Q } (start N vs) H) :
    Gd P w K mg base (L2.CX P w) (k + 1) f fd ps sp := by
  obtain ⟨oc, od, kV, doc, pm, an, cdv, ct, osl, rfl, found, code⟩ := F.ex
  exact gd_of found code sc len fun A outer s H vs Q E rm gd q => inner cdv A outer s H vs Q E rm gd q
end

/-! ### calls -/
section
variable {X : Cx} {CX : CXT} {k : Nat} {f C : Addr} {fd : FuncData} {ps ks : List Str} {sp : Sp} {dvs : List V} {ds : List Value} {E : XK} {x m : Str} {p pos apos : Pos} {e o : Expr} {es : List Expr} {kws : List Keyword} {ta te : TE} {t tk : TA}
/-- the callee runs, around it A with the same frames and nothing shown -/
theorem run_at {pins : List (Addr × Obj)} {σ : L2.St} {H : Hp} {s : Shared} {Q : VK} {us ws : List Value} {kw : List (Str × Value)} {vs : List V} {A : Around} {W : Value → Shared → Prop}
    (F : Gd X.prog X.w X.K X.mg X.base CX k f fd ps sp) (rm : Room k A) (gd : A.guards = some []) (e0 : Env0 X.prog X.w X.K X.mg X.base A X.stack s H)
    (pass : ∀ e s', CX X.stack H s E e s' → W e s')
    (I : Inv X pins σ H s) (bt : BindsTo s fd ⟨us, kw⟩ (ps.zip ws)) (r : Vals vs ws) (q : sp vs H Q E) : wpAny (model X.prog X.w) A (call (.ref f) us kw) (EP X pins σ Q) W s := by
  refine wpAny_call (codeAny_mono (F.go A X.stack s H ⟨us, kw⟩ ws vs Q E rm gd e0 bt r q) fun out s' hq => ?_)
  match out, hq with
  | .error e, hq => exact pass e s' hq
  | .ok (.ret u), hq => exact I.after hq
theorem run_g {pins : List (Addr × Obj)} {σ : L2.St} {H : Hp} {s : Shared} {Q : VK} {us ws : List Value} {kw : List (Str × Value)} {vs : List V}
    (F : Gd X.prog X.w X.K X.mg X.base CX k f fd ps sp) (rm : Room k X.A) (gd : X.A.guards = some []) (hx : Passes CX X E)
    (I : Inv X pins σ H s) (bt : BindsTo s fd ⟨us, kw⟩ (ps.zip ws)) (r : Vals vs ws) (q : sp vs H Q E) : wpAny (model X.prog X.w) X.A (call (.ref f) us kw) (EP X pins σ Q) X.xe s :=
  run_at F rm gd I.env0 (fun e s' hq => hx pins σ H s e s' I hq) I bt r q
theorem bind_pos {s : Shared} {us : List Value} {vs : List V} {H : Hp} {Q : VK} (F : Gd X.prog X.w X.K X.mg X.base CX k f fd ps sp) (hb : Binds X.K fd ps ds) (hd : Vals dvs ds) (KX : X.K.In s.heap) (r : Vals vs us) (q : sp (vs ++ dvs) H Q E) :
    BindsTo s fd ⟨us, []⟩ (ps.zip (us ++ ds)) := hb s us KX (by rw [← (r.append hd).length]; exact F.len _ _ _ _ q)

/-- f(e, ..) -/
theorem pe_gcall (F : Gd X.prog X.w X.K X.mg X.base CX k f fd ps sp) (rm : Room k X.A) (gd : X.A.guards = some []) (gl : Gl X x) (at_ : X.mg x = some (.ref f)) (kp : PySem.W.keepIn X.K (.ref f) = true) (hb : Binds X.K fd ps ds) (hd : Vals dvs ds) (hx : Passes CX X E)
    (ha : PA X (e :: es) t) (hdb : (x == ("__debug__" : Str)) = false := by decide) (he : starEach (e :: es) X.env = (false, eval e X.env) :: starEach es X.env := by rfl) (hpl : (backTo pos (starEach es X.env)).any (·.1) = false := by rfl) :
    PE X (.Call (.Name x p) (e :: es) [] pos) (tCall sp dvs E t) :=
  ⟨fun pins s σ H Q I h => wpAny_Call_Name_kw (ld_glob I gl at_ (PySem.W.callWith_K (h₀ := X.base) I.ok.mod.kin kp
    (thn (ha.run pos pins s σ H _ I h) fun us s1 ⟨vs, H1, J, r, q⟩ => ⟨J.kIn, run_g F rm gd hx J (bind_pos F hb hd J.kIn r q) (r.append hd) q⟩) he hpl) hdb)⟩
/-- f() -/
theorem pe_gcall0 (F : Gd X.prog X.w X.K X.mg X.base CX k f fd ps sp) (rm : Room k X.A) (gd : X.A.guards = some []) (gl : Gl X x) (at_ : X.mg x = some (.ref f)) (kp : PySem.W.keepIn X.K (.ref f) = true) (hb : Binds X.K fd ps ds) (hd : Vals dvs ds) (hx : Passes CX X E)
    (hdb : (x == ("__debug__" : Str)) = false := by decide) : PE X (.Call (.Name x p) [] [] pos) (tCall sp dvs E tNil) :=
  ⟨fun pins s σ H Q I h => wpAny_Call_Name_kw (ld_glob I gl at_ (PySem.W.callWith_K0 I.kIn kp (run_g (us := []) (vs := dvs) F rm gd hx I (bind_pos (vs := []) F hb hd I.kIn .nil h) (Vals.append .nil hd) h)) hdb)⟩
/-- o.m(e, ..) -/
theorem pe_gmeth {pl : Sem Bool} (he : PE X o ta) (c : Cls X.K C) (hm : Meth X.K C m f) (F : Gd X.prog X.w X.K X.mg X.base CX k f fd ps sp) (rm : Room k X.A) (gd : X.A.guards = some []) (hb : Binds X.K fd ps ds) (hd : Vals dvs ds) (hx : Passes CX X E) (ha : PA X (e :: es) t)
    (hst : starEach (e :: es) X.env = (false, eval e X.env) :: starEach es X.env := by rfl) (hpl : (backTo pos (starEach es X.env)).any (·.1) = false := by rfl)
    (ht : eval (.Call (.Attribute o m apos) (e :: es) [] pos) X.env = (do
      let w ← eval o X.env
      standAt apos.atName
      let (g, a) ← holding [w] (getMethod w m pl)
      callWith pos g a (backTo pos (starEach (e :: es) X.env)) (backToKw pos (keywordEach [] X.env))) := by rfl) :
    PE X (.Call (.Attribute o m apos) (e :: es) [] pos) (tMeth C m sp dvs E ta t) := by
  refine ⟨fun pins s σ H Q I h => PySem.W.methodCall_KW (pl := pl) (thn (he.run pins s σ H _ I h) fun u s1 ⟨y, H1, I1, ry, a, dx, fs, ey, ea, l, q⟩ => ?_) ht⟩
  subst ey
  obtain rfl : u = Value.ref a := ry
  refine getmeth_ok I1 ea c hm l (PySem.W.callWith_K (first := [.ref a]) (h₀ := X.base) I.ok.mod.kin hm.kp (thn (ha.run pos pins s1 σ H1 _ I1 q) fun us s2 ⟨vs, H2, J, r, q2⟩ => ⟨J.kIn, ?_⟩) hst hpl)
  have r1 : Vals (V.ref a :: vs) (Value.ref a :: us) := .cons rfl r
  exact run_g F rm gd hx J (bind_pos F hb hd J.kIn r1 q2) (r1.append hd) q2
/-- o.m() -/
theorem pe_gmeth0 {pl : Sem Bool} (he : PE X o ta) (c : Cls X.K C) (hm : Meth X.K C m f) (F : Gd X.prog X.w X.K X.mg X.base CX k f fd ps sp) (rm : Room k X.A) (gd : X.A.guards = some []) (hb : Binds X.K fd ps ds) (hd : Vals dvs ds) (hx : Passes CX X E)
    (ht : eval (.Call (.Attribute o m apos) [] [] pos) X.env = (do
      let w ← eval o X.env
      standAt apos.atName
      let (g, a) ← holding [w] (getMethod w m pl)
      callWith pos g a (backTo pos (starEach [] X.env)) (backToKw pos (keywordEach [] X.env))) := by rfl) :
    PE X (.Call (.Attribute o m apos) [] [] pos) (tMeth C m sp dvs E ta tNil) := by
  refine ⟨fun pins s σ H Q I h => PySem.W.methodCall_KW (pl := pl) (thn (he.run pins s σ H _ I h) fun u s1 ⟨y, H1, J, ry, a, dx, fs, ey, ea, l, q⟩ => ?_) ht⟩
  subst ey
  obtain rfl : u = Value.ref a := ry
  have r1 : Vals [V.ref a] [Value.ref a] := .cons rfl .nil
  exact getmeth_ok J ea c hm l (PySem.W.callWith_K0 (first := [.ref a]) J.kIn hm.kp (run_g (us := [.ref a]) F rm gd hx J (bind_pos (vs := [.ref a]) F hb hd J.kIn r1 q) (r1.append hd) q))

/-- some of a list, by places -/
def sel {α : Type} (is : List Nat) (l : List α) : List α := is.filterMap fun i => l[i]?
theorem sel_vals : ∀ (is : List Nat) {vs : List V} {us : List Value}, Vals vs us → Vals (sel is vs) (sel is us)
  | [], _, _, _ => .nil
  | i :: is, vs, us, r => by
    have ih := sel_vals is r
    unfold sel at ih ⊢
    rw [List.filterMap_cons, List.filterMap_cons]
    cases h : vs[i]? with
    | none => rw [r.none_of h]; exact ih
    | some v =>
      obtain ⟨u, e, rv⟩ := r.get h
      rw [e]
      exact .cons rv ih
/-- keywords behind n values: the keywords' values in the order of is -/
theorem kbn_of {K : PySem.W.Frag} {qual : Str} {st : Stmt} (F : Fun K x qual st f fd) (n : Nat) (ks : List Str) (is : List Nat)
    (h : ∀ (kV doc pm : Value) (an : Option Addr) (cdv ct : Value) (us ws : List Value), us.length = n → ws.length = ks.length →
      bindArgs (PySem.W.fnOf x qual (defArgs st) (defBody st) (defScope st) .none kV doc pm an cdv ct) ⟨us, ks.zip ws⟩ = pure (ps.zip (us ++ sel is ws))) :
    KBn K fd ps n ks (fun us ws => us ++ sel is ws) (fun vs zs => vs ++ sel is zs) := by
  obtain ⟨oc, od, kV, doc, pm, an, cdv, ct, osl, rfl, _, _⟩ := F.ex
  exact ⟨fun s us ws _ l1 l2 => .of_eq (h kV doc pm an cdv ct us ws l1 l2), fun r rz => r.append (sel_vals is rz)⟩
variable {n : Nat} {g : List Value → List Value → List Value} {gV : List V → List V → List V}
/-- o.m(k = v, ..) -/
def tMethK (C : Addr) (m : Str) (j : Nat) (sp : Sp) (gV : List V → List V → List V) (E : XK) (ta : TE) (tk : TA) : TE := fun σ H Q => ta σ H fun x H1 => ∃ a dx fs, x = .ref a ∧ H1 a = some (.ins C dx fs) ∧ fs.lookup m = none ∧
  tk σ H1 fun zs H2 => zs.length = j ∧ sp (gV [x] zs) H2 Q E
theorem pe_gmethK {pl : Sem Bool} (he : PE X o ta) (c : Cls X.K C) (hm : Meth X.K C m f) (F : Gd X.prog X.w X.K X.mg X.base CX k f fd ps sp) (rm : Room k X.A) (gd : X.A.guards = some []) (hb : KBn X.K fd ps 1 ks g gV) (hx : Passes CX X E) (hkw : PK X kws tk)
    (hall : (backToKw pos (keywordEach kws X.env)).all (·.1.isSome) = true := by rfl) (hks : (backToKw pos (keywordEach kws X.env)).filterMap (·.1) = ks := by rfl)
    (hpl : ((backTo pos (starEach [] X.env)).any (·.1) || (backToKw pos (keywordEach kws X.env)).any (·.1.isNone)) = false := by rfl)
    (ht : eval (.Call (.Attribute o m apos) [] kws pos) X.env = (do
      let w ← eval o X.env
      standAt apos.atName
      let (g, a) ← holding [w] (getMethod w m pl)
      callWith pos g a (backTo pos (starEach [] X.env)) (backToKw pos (keywordEach kws X.env))) := by rfl) :
    PE X (.Call (.Attribute o m apos) [] kws pos) (tMethK C m ks.length sp gV E ta tk) := by
  refine ⟨fun pins s σ H Q I h => PySem.W.methodCall_KW (pl := pl) (thn (he.run pins s σ H _ I h) fun u s1 ⟨y, H1, I1, ry, a, dx, fs, ey, ea, l, q⟩ => ?_) ht⟩
  subst ey
  obtain rfl : u = Value.ref a := ry
  refine getmeth_ok I1 ea c hm l (PySem.W.callWith_KW0 (first := [.ref a]) (h₀ := X.base) I.ok.mod.kin hm.kp hall (thn (hkw.run pos pins s1 σ H1 _ I1 q) fun ws s2 ⟨zs, H2, J, rz, lz, q2⟩ => ⟨J.kIn, ?_⟩) hpl)
  rw [hks]
  have r1 : Vals [V.ref a] [Value.ref a] := .cons rfl .nil
  exact run_g (us := [.ref a]) F rm gd hx J (hb.to s2 [.ref a] ws J.kIn rfl (rz.length.symm.trans lz)) (hb.rel r1 rz) q2

/-! ### new instances -/
theorem und_make {A : Around} {us : List Value} {kw : List (Str × Value)} : (A.under (.builtin "type.__call__" ⟨.ref C :: us, kw⟩)).guards = A.guards := by
  first | rfl | simp [Around.under, Code.guards, Code.isGuard, guardIds, pushGuards]
theorem run_gmake {pins : List (Addr × Obj)} {σ : L2.St} {H : Hp} {s : Shared} {Q : VK} {us : List Value} {kw : List (Str × Value)} (gW : Value → List Value) (gZ : V → List V) (M : Mk X.K C f) (F : Gd X.prog X.w X.K X.mg X.base CX k f fd ps sp) (rm : Room (k + 1) X.A) (gd : X.A.guards = some [])
    (hb : ∀ (s : Shared) (y : Addr), X.K.In s.heap → BindsTo s fd ⟨.ref y :: us, kw⟩ (ps.zip (gW (.ref y)))) (hv : ∀ y : Addr, Vals (gZ (.ref y)) (gW (.ref y)))
    (hx : Passes CX X E) (I : Inv X pins σ H s)
    (h : ∀ y dy, H y = none → H dy = none → dy ≠ y → sp (gZ (.ref y)) (upd (upd H dy (.own y)) y (.ins C dy [])) (fun v H2 => v = .non ∧ Q (.ref y) H2) E) :
    wpAny (model X.prog X.w) X.A (call (.ref C) us kw) (EP X pins σ Q) X.xe s := by
  have hq := h (s.heap.objs.size + 1) s.heap.objs.size (I.hok.fresh (Nat.le_succ _)) (I.hok.fresh (Nat.le_refl _)) (Nat.ne_of_lt (Nat.lt_succ_self _))
  have J := Inv.made (C := C) I
  refine wpAny_call (make_map (f := f) I.kIn M.makes M.init (beq_iff_eq.mp M.fn) (codeAny_mono (F.go _ X.stack _ _ ⟨Value.ref (s.heap.objs.size + 1) :: us, kw⟩ _ _ _ E (rm.make C us kw)
    (und_make.trans gd) (J.env0.make C us kw) (hb _ (s.heap.objs.size + 1) J.kIn) (hv _) hq) fun out s' hq' => ?_))
  match out, hq' with
  | .error e, hq' => exact hx pins σ _ _ e s' J hq'
  | .ok (.ret u), hq' =>
    obtain ⟨v, H', I3, rv, ev, q3⟩ := J.after hq'
    subst ev
    exact ⟨rv, ⟨V.ref (s.heap.objs.size + 1), H', I3, rfl, q3⟩⟩
/-- C(e, ..) -/
theorem pe_gmake (M : Mk X.K C f) (F : Gd X.prog X.w X.K X.mg X.base CX k f fd ps sp) (rm : Room (k + 1) X.A) (gd : X.A.guards = some []) (gl : Gl X x) (at_ : X.mg x = some (.ref C)) (hb : Binds X.K fd ps ds) (hd : Vals dvs ds) (hx : Passes CX X E)
    (ha : PA X (e :: es) t) (hdb : (x == ("__debug__" : Str)) = false := by decide) (he : starEach (e :: es) X.env = (false, eval e X.env) :: starEach es X.env := by rfl) (hpl : (backTo pos (starEach es X.env)).any (·.1) = false := by rfl) :
    PE X (.Call (.Name x p) (e :: es) [] pos) (tMake C sp dvs E t) := by
  refine ⟨fun pins s σ H Q I h => wpAny_Call_Name_kw (ld_glob I gl at_ (PySem.W.callWith_K (h₀ := X.base) I.ok.mod.kin M.kp (thn (ha.run pos pins s σ H _ I h) fun us s1 ⟨vs, H1, J, r, q⟩ => ⟨J.kIn, ?_⟩) he hpl) hdb)⟩
  have rr : ∀ y : Addr, Vals (V.ref y :: vs ++ dvs) (Value.ref y :: us ++ ds) := fun y => .cons rfl (r.append hd)
  have hl : ∀ y : Addr, (Value.ref y :: us ++ ds).length = ps.length := fun y => by
    have e := (rr y).length
    have q1 := q (s1.heap.objs.size + 1) s1.heap.objs.size (J.hok.fresh (Nat.le_succ _)) (J.hok.fresh (Nat.le_refl _)) (Nat.ne_of_lt (Nat.lt_succ_self _))
    have e1 := F.len _ _ _ _ q1
    rw [← e, ← e1]
    simp
  exact run_gmake (fun y => y :: us ++ ds) (fun y => y :: vs ++ dvs) M F rm gd (fun s y KX => hb s (.ref y :: us) KX (hl y)) rr hx J q
/-- C(k = v, ..) -/
def tMakeKG (C : Addr) (j : Nat) (sp : Sp) (gV : List V → List V → List V) (E : XK) (tk : TA) : TE := fun σ H Q => tk σ H fun zs H2 => zs.length = j ∧
  ∀ x dx, H2 x = none → H2 dx = none → dx ≠ x → sp (gV [.ref x] zs) (upd (upd H2 dx (.own x)) x (.ins C dx [])) (fun v H3 => v = .non ∧ Q (.ref x) H3) E
theorem pe_gmakeK (M : Mk X.K C f) (F : Gd X.prog X.w X.K X.mg X.base CX k f fd ps sp) (rm : Room (k + 1) X.A) (gd : X.A.guards = some []) (gl : Gl X x) (at_ : X.mg x = some (.ref C)) (hb : KBn X.K fd ps 1 ks g gV) (hx : Passes CX X E)
    (hkw : PK X kws tk) (hall : (backToKw pos (keywordEach kws X.env)).all (·.1.isSome) = true := by rfl) (hks : (backToKw pos (keywordEach kws X.env)).filterMap (·.1) = ks := by rfl)
    (hdb : (x == ("__debug__" : Str)) = false := by decide)
    (hpl : ((backTo pos (starEach [] X.env)).any (·.1) || (backToKw pos (keywordEach kws X.env)).any (·.1.isNone)) = false := by rfl) :
    PE X (.Call (.Name x p) [] kws pos) (tMakeKG C ks.length sp gV E tk) := by
  refine ⟨fun pins s σ H Q I h => wpAny_Call_Name_kw (ld_glob I gl at_ (PySem.W.callWith_KW0 (first := []) (h₀ := X.base) I.ok.mod.kin M.kp hall (thn (hkw.run pos pins s σ H _ I h) fun ws s2 ⟨zs, H2, J, rz, lz, q2⟩ => ⟨J.kIn, ?_⟩) hpl) hdb)⟩
  rw [hks]
  exact run_gmake (us := []) (fun y => g [y] ws) (fun y => gV [y] zs) M F rm gd (fun s y KX => hb.to s [.ref y] ws KX rfl (rz.length.symm.trans lz)) (fun y => hb.rel (.cons rfl .nil) rz) hx J q2
end
end KG

set_option Elab.async false
set_option linter.all false
set_option maxRecDepth 100000
set_option maxHeartbeats 4000000
/-! KR: the end of a law over such promises; repr of data, str of an own object, == and != by an own __eq__. -/
namespace KG
open PySem PySem.Spec PyProof.Rows L2

/-! ### the end: the law's def is called where nothing is shown -/
theorem law_gd {P : Program} {w : World} {K : PySem.W.Frag} {mg mb : Str → Option Value} {CX : CXT} {k : Nat} {fa a : Addr} {fd : FuncData} {x : Str} {sp : Sp} {s1 : Shared} {vs : List Value} {ns : List Int}
    (kin : K.In s1.heap) (nsm : s1.heap.Ns mainGlobals mg) (nsb : s1.heap.Ns builtinsNs mb) (mbb : ∀ x : Str, x ≠ "__name__" → mb x = bootBuiltins x) (lim : s1.heap.NoLimit) (nog : s1.gens = #[])
    (atA : s1.heap.get? a = some { cls := .type "list", data := .seq vs.toArray }) (isn : IntsAre vs ns) (small : ns.length ≤ sizeLine) (rm : Room k callerA)
    (F : ∀ base : Heap, K.In base → base.Ns mainGlobals mg → Gd P w K mg base CX k fa fd [x] sp) (bt : ∀ (s : Shared) (u : Value), BindsTo s fd ⟨[u], []⟩ [(x, u)])
    (start_ : ∀ H : Hp, Only H → SqL K H a (ns.map V.int) → sp [.ref a] H (fun v _ => v = .bl true) fun _ _ _ => False)
    (quiet : ∀ H e s', CX [] H s1 (fun _ _ _ => False) e s' → False) :
    codeAny (model P w) callerA (.call (.ref fa) ⟨[.ref a], []⟩) (fun r s' => r = .ok (.ret (.bool true)) ∧ OldK s1.heap s'.heap ∧ s'.os = s1.os ∧ AllBare s'.gens) s1 := by
  have rv := vals_ints isn
  have vlen := isn.length
  have from_ : ∀ H : Hp, Only H → SqL K H a (ns.map V.int) → HOk P w H s1.heap → (∀ b, H b ≠ none → b = a) → (H a ≠ none → K.lookup a = none) →
      codeAny (model P w) callerA (.call (.ref fa) ⟨[.ref a], []⟩) (fun r s' => r = .ok (.ret (.bool true)) ∧ OldK s1.heap s'.heap ∧ s'.os = s1.os ∧ AllBare s'.gens) s1 := by
    intro H only sq hok onlyA notK
    have free_of : ∀ {b : Addr} {o : Obj}, (H b ≠ none → b = a → False) → H b = none := fun {b o} h => by
      by_cases z : H b = none
      · exact z
      · exact (h z (onlyA b z)).elim
    have dict_free : ∀ {b : Addr} {o : Obj} {es : Array DictEntry} {ep : Nat}, s1.heap.get? b = some o → o.data = .dict es ep → H b = none := fun {b o es ep} e d =>
      free_of (o := o) fun _ eb => by
        rw [eb, atA] at e
        cases e
        exact nomatch d
    have ns_hid : ∀ {b : Addr} {m : Str → Option Value}, s1.heap.Ns b m → (hidT s1.heap H).Ns b m :=
      fun {b m} ⟨o, es, ep, e, d, r⟩ => ⟨o, es, ep, hidT_get e (dict_free e d), d, r⟩
    have kin_hid : K.In (hidT s1.heap H) := fun b o e => hidT_get (kin b o e) (free_of (o := o) fun z eb => by
      rw [eb] at e z
      rw [notK z] at e
      cases e)
    have mod : Mod K mg (hidT s1.heap H) := ⟨kin_hid, ns_hid nsm, ⟨mb, ns_hid nsb, mbb⟩, lim.elim fun mc h => ⟨mc, ns_hid h.1, h.2⟩⟩
    have e0 : Env0 P w K mg (hidT s1.heap H) callerA [] s1 H := ⟨rfl, mod, fun b o e => of_hidT e, Nat.le_of_eq (hidT_size _ _), trivial, fun b hb => absurd (show b ∈ ([] : List Addr) from hb) List.not_mem_nil, hok, .of_eq nog⟩
    refine codeAny_mono ((F _ kin_hid (ns_hid nsm)).go callerA [] s1 H ⟨[.ref a], []⟩ [.ref a] [.ref a] _ _ rm rfl e0 (bt s1 (.ref a)) (.cons rfl .nil) (start_ H only sq)) fun r s' h => ?_
    match r, h with
    | .error e, h => exact (quiet H e s' h).elim
    | .ok (.ret u), h =>
      obtain ⟨v, H', os, bare, un, hok', r', q⟩ := h
      have q' : v = .bl true := q
      subst q'
      obtain rfl : u = Value.bool true := r'
      refine ⟨rfl, OldK.of_keep fun b o e => ?_, os, bare⟩
      cases z : H b with
      | none => exact un.keep b o e z (by intro y; cases y) (by simp)
      | some t =>
        rcases only b with y | ⟨ob, xs, y⟩
        · rw [z] at y
          cases y
        · have y2 := un.frzs b ob _ y
          obtain ⟨g1, _⟩ := hok b _ y
          obtain ⟨g2, _⟩ := hok' b _ y2
          rw [e] at g1
          cases g1
          exact g2
  cases hk : K.lookup a with
  | some o =>
    have e := kin a o hk
    rw [atA] at e
    cases e
    exact from_ (fun _ => none) (fun _ => .inl rfl) (.inr ⟨_, vs.toArray, _, hk, rfl, rfl, rfl, by rw [List.size_toArray, vlen]; exact small, by simpa using rv⟩) (fun b u z => by cases z) (fun b z => absurd rfl z) fun z => absurd rfl z
  | none =>
    have at_a : ∀ {b : Addr} {u : HO}, (if b = a then some (HO.frz { cls := .type "list", data := .seq vs.toArray } (.lst (ns.map V.int))) else none) = some u → b = a := fun {b u} z => by
      by_cases hb : b = a
      · exact hb
      · rw [if_neg hb] at z
        cases z
    refine from_ (fun b => if b = a then some (.frz { cls := .type "list", data := .seq vs.toArray } (.lst (ns.map V.int))) else none) (fun b => ?_) (.inl (.inr ⟨{ cls := .type "list", data := .seq vs.toArray }, if_pos rfl⟩)) (fun b u z => ?_) (fun b z => ?_) fun _ => hk
    · by_cases hb : b = a
      · exact .inr ⟨_, _, if_pos hb⟩
      · exact .inl (if_neg hb)
    · obtain rfl := at_a z
      have z' := (if_pos rfl).symm.trans z
      cases z'
      exact ⟨atA, by rw [List.length_map]; exact small, vs, _, rv, atA⟩
    · by_cases hb : b = a
      · exact hb
      · exact absurd (if_neg hb) z

/-- the law's walk, from its promise where nothing is shown -/
theorem walk_gd {l : PySem.W.OpenLaw} {n k : Nat} {q : Program} {loose : List Str} {XP : (Str → Option Value) → Heap → Prop} {YP : World → Heap → Prop} {d : DefRec} {K : Params → PySem.W.Frag} {CX : World → CXT} {sp : World → Sp} {x : Str}
    (most : l.most = some n) (n2 : n ≤ sizeLine) (nod : d.params.defaults = []) (rm : Room k callerA)
    (hY : ∀ (w : World) (h : Heap), YP w h → (K w.params).In h)
    (F : ∀ (w : World) (mg : Str → Option Value) (fa : Addr) (h : Heap), (K w.params).In h → h.Ns mainGlobals mg → mg d.name = some (.ref fa) →
      ∃ fd : FuncData, (∀ (s : Shared) (u : Value), BindsTo s fd ⟨[u], []⟩ [(x, u)]) ∧
        ∀ base : Heap, (K w.params).In base → base.Ns mainGlobals mg → Gd l.prog w (K w.params) mg base (CX w) k fa fd [x] (sp w))
    (start_ : ∀ (w : World) (H : Hp) (a : Addr) (ns : List Int), ns.length ≤ n → Only H → SqL (K w.params) H a (ns.map V.int) → sp w [.ref a] H (fun v _ => v = .bl true) fun _ _ _ => False)
    (quiet : ∀ (w : World) (H : Hp) (s : Shared) (e : Value) (s' : Shared), CX w [] H s (fun _ _ _ => False) e s' → False) :
    PySem.W.WalkO q loose XP YP l.row.toRowW d [] (fun f vs => PySem.call f vs) := by
  refine Att.attach_call most nod fun w s0 s1 mg mb fa o pm cd doc a vs ns G Y ho hd hcd hmg hobj hints hlen hg => ?_
  have kin := hY w _ Y
  obtain ⟨fd, hb, hF⟩ := F w mg fa _ kin G.T.g hmg
  exact law_gd kin G.T.g G.T.b G.T.builtins G.T.nolimit hg hobj hints (Nat.le_trans hlen n2) rm hF hb (fun H hO hS => start_ w H a ns hlen hO hS) fun H e s' => quiet w H s1 e s'

/-- .. where the promise hangs on the written part alone -/
theorem walk_gdK {l : PySem.W.OpenLaw} {n k : Nat} {q : Program} {loose : List Str} {XP : (Str → Option Value) → Heap → Prop} {YP : World → Heap → Prop} {d : DefRec} {K : Params → PySem.W.Frag} {CX : CXT} {sp : PySem.W.Frag → Sp} {x : Str}
    (most : l.most = some n) (n2 : n ≤ sizeLine) (nod : d.params.defaults = []) (rm : Room k callerA)
    (hY : ∀ (w : World) (h : Heap), YP w h → (K w.params).In h)
    (F : ∀ (w : World) (mg : Str → Option Value) (fa : Addr) (h : Heap), (K w.params).In h → h.Ns mainGlobals mg → mg d.name = some (.ref fa) →
      ∃ fd : FuncData, (∀ (s : Shared) (u : Value), BindsTo s fd ⟨[u], []⟩ [(x, u)]) ∧
        ∀ base : Heap, (K w.params).In base → base.Ns mainGlobals mg → Gd l.prog w (K w.params) mg base CX k fa fd [x] (sp (K w.params)))
    (start_ : ∀ (K : PySem.W.Frag) (H : Hp) (a : Addr) (ns : List Int), ns.length ≤ n → Only H → SqL K H a (ns.map V.int) → sp K [.ref a] H (fun v _ => v = .bl true) fun _ _ _ => False)
    (quiet : ∀ (H : Hp) (s : Shared) (e : Value) (s' : Shared), CX [] H s (fun _ _ _ => False) e s' → False) :
    PySem.W.WalkO q loose XP YP l.row.toRowW d [] (fun f vs => PySem.call f vs) :=
  walk_gd (K := K) (CX := fun _ => CX) (sp := fun w => sp (K w.params)) most n2 nod rm hY F (fun w H a ns h1 h2 h3 => start_ (K w.params) H a ns h1 h2 h3) fun _ H s e s' => quiet H s e s'

/-! ### repr of data -/
section
variable {X : Cx}
/-- repr(x), x data: none, bools, ints, texts, lists, tuples -/
def rRepr (K : PySem.W.Frag) : List V → Hp → VK → Prop := fun xs H Q => ∃ x d, xs = [x] ∧ Dp K H x d ∧ d.showable = true ∧ d.hasDict = false ∧ d.depth ≤ 40 ∧ d.shown.length ≤ sizeLine ∧ Q (.str d.shown) H
theorem call_repr {k : Nat} (rm : Room k X.A) (gd : X.A.guards = some []) : CallR X (.builtin "repr") (rRepr X.K) := by
  intro pins s σ H xs us Q I r h
  obtain ⟨x, d, rfl, hd, sh, nd, dp, sz, q⟩ := h
  obtain ⟨u, rfl, r1⟩ := vals1 r
  obtain ⟨as, rd⟩ := Dp.reads I d x u hd r1
  have room := rm.units
  have fin : ∀ (s' : Shared) (tk : Tok), Inv X pins σ H s' → EP X pins σ Q (.str d.shown tk) s' := fun s' tk J => ⟨.str d.shown, H, J, ⟨tk, rfl⟩, q⟩
  have intsz : ∀ i : Int, d = .int i → i.natAbs.log2 < 1920 := fun i e => by
    subst e
    simpa [PyData.showable] using sh
  cases hd with
  | non =>
    cases r1
    rw [PyData.shown_none] at q
    exact PySem.P.repr_of_none ⟨.str _, H, I.tok _, ⟨_, rfl⟩, q⟩
  | bl b =>
    cases r1
    rw [PyData.shown_bool] at q
    exact PySem.P.repr_of_bool ⟨.str _, H, I.tok _, ⟨_, rfl⟩, by cases b <;> exact q⟩
  | int i =>
    obtain ⟨t, rfl⟩ := r1
    rw [PyData.shown_int] at q
    exact PySem.P.repr_of_int (intsz i rfl) ⟨.str _, H, I.tok _, ⟨_, rfl⟩, q⟩
  | str z =>
    obtain ⟨t, rfl⟩ := r1
    rw [PyData.shown_str] at q sz
    exact PySem.P.repr_of_str ⟨.str _, H, I.tok _, ⟨_, rfl⟩, q⟩ sz
  | lst _ _ =>
    cases r1
    exact repr_of_reads' rd sh (fun z => by rw [nd] at z; cases z) gd (by omega) (fun _ _ z => z) (fun h' u tk keep => fin _ _ (I.kept (t' := tk) keep)) sz
  | tup _ _ =>
    cases r1
    exact repr_of_reads' rd sh (fun z => by rw [nd] at z; cases z) gd (by omega) (fun _ _ z => z) (fun h' u tk keep => fin _ _ (I.kept (t' := tk) keep)) sz
end

/-! ### str(o), o an own object with its own __str__ -/
section
variable {X : Cx} {CX : CXT} {k : Nat} {f C : Addr} {fd : FuncData} {ps : List Str} {sp : Sp} {E : XK}
theorem in1_gd {A : Around} (h : A.guards = some []) : A.in1.guards = some [] := h
def rStrO (C : Addr) (sp : Sp) (E : XK) : List V → Hp → VK → Prop := fun xs H Q => ∃ a dx fs, xs = [.ref a] ∧ H a = some (.ins C dx fs) ∧ sp [.ref a] H (fun v H' => ∃ z, v = .str z ∧ Q (.str z) H') E
theorem call_strO (F : Gd X.prog X.w X.K X.mg X.base CX k f fd ps sp) (rm : Room (k + 2) X.A) (gd : X.A.guards = some []) (hs : PySem.W.findIn X.K (.ref C) "__str__" = some (some (.ref f))) (hf : PySem.W.isFn X.K (.ref f) = true)
    (hb : Binds X.K fd ps []) (hx : Passes CX X E) : CallR X (.type "str") (rStrO C sp E) := by
  intro pins s σ H xs us Q I r h
  obtain ⟨a, dx, fs, rfl, ea, q⟩ := h
  obtain ⟨u, rfl, r1⟩ := vals1 r
  obtain rfl : u = Value.ref a := r1
  obtain ⟨mA, J, _⟩ := ins_get I.hok ea
  obtain ⟨od, J, _⟩ := J.look
  have room := rm.units
  refine PySem.W.kso_call (by show X.A.units + 1 + 1 < cLine; omega) I.kIn J hs hf ?_
  have r2 : Vals [V.ref a] [Value.ref a] := .cons rfl .nil
  have bt := bind_pos (dvs := []) (vs := [V.ref a]) F hb .nil I.kIn r2 q
  refine wpAny_mono (run_at (us := [.ref a]) F rm.in1.in1 (in1_gd (in1_gd gd)) I.env0.in1.in1 (fun e s' hq => hx pins σ H s e s' I hq) I bt r2 q) (fun v s' hv => ?_) fun _ _ z => z
  obtain ⟨z, H', J', rz, y, ey, q'⟩ := hv
  subst ey
  obtain ⟨t, rfl⟩ := rz
  exact ⟨.str y, H', J', ⟨t, rfl⟩, q'⟩

/-! ### == and != by an own __eq__ -/
theorem ne_bound {M : Model} {A : Around} {W : Value → Shared → Prop} {s : Shared} {K : PySem.W.Frag} {x C : Addr} {ox : Obj} {od : Option Obj} {args : List Value} {Q : Option Value → Shared → Prop} (kin : K.In s.heap) (J : PySem.W.InstAt s.heap x ox C od)
    (hs : PySem.W.findIn K (.ref C) "__ne__" = some (some (.builtin "object.__ne__"))) (h : wpAny M A (call (.builtin "object.__ne__") (.ref x :: args)) (fun v => Q (some v)) W s) :
    wpAny M A (callSpecialIfBound? (.ref x) "__ne__" args) Q W s := by
  simp only [callSpecialIfBound?, bindSpecialIfBound?]
  refine wpAny_holding (wpAny_bind (wpAny_bind (wpAny_bind (J.type.here ((PySem.W.looks_findIn kin hs).here ?_)))))
  refine wpAny_bind (wpAny_askSetting (wpAny_ite ?_))
  have last : wpAny M A (call (.builtin "object.__ne__") ([.ref x] ++ args) >>= fun v => pure (some v)) Q W s :=
    wpAny_bind (wpAny_mono h (fun v s' z => wpAny_pure z) fun _ _ z => z)
  split
  · exact wpAny_bind (wpAny_of_eq (F.cmp_object.ne.bind _) (wpAny_pure (by exact last)))
  · exact wpAny_tryCatch (wpAny_bind (wpAny_of_eq (F.cmp_object.ne.bind _) (wpAny_pure (by exact last))))
theorem ne_own {prog : Program} {w : World} {A : Around} {W : Value → Shared → Prop} {s : Shared} {K : PySem.W.Frag} {x C f : Addr} {ox : Obj} {od : Option Obj} {b tb : Value} {Q : Value → Shared → Prop} (hu : A.units + 1 < cLine) (kin : K.In s.heap) (J : PySem.W.InstAt s.heap x ox C od)
    (hb : PySem.W.Looks (model prog w) s.heap (typeOf b) tb) (hn : PySem.W.notFirst K C tb = true) (hm : PySem.W.mroIn K C (.type "object") = some true)
    (hs : PySem.W.findIn K (.ref C) "__ne__" = some (some (.builtin "object.__ne__"))) (he : PySem.W.findIn K (.ref C) "__eq__" = some (some (.ref f))) (hf : PySem.W.isFn K (.ref f) = true)
    (h : wpAny (model prog w) A.in1 (call (.ref f) [.ref x, b]) (fun v s' => ∃ c, v = .bool c ∧ Q (.bool (!c)) s') W s) : wpAny (model prog w) A (richCompare .NotEq (.ref x) b) Q W s := by
  have one : wpAny (model prog w) A (tryCompare (.ref x) "__ne__" b) (fun r s' => ∃ v, r = some v ∧ Q v s') W s := by
    unfold tryCompare
    refine wpAny_bind (ne_bound kin J hs (wpAny_call (codeAny_call_builtin F.cmp_object.ne.plain F.cmpEntry_ne
      (PySem.W.check_slot F.cmpKind_ne F.cmpSplit_ne (J.type.andThen (PySem.W.looks_mroIn kin hm)) (F.cmpArgs_ne _ _) ?_))))
    show wpAny _ _ (Builtin.«object.__ne__» ⟨[.ref x, b], []⟩) _ _ s
    unfold Builtin.«object.__ne__»
    refine wpAny_bind (m := slotArgs "__ne__" 1 _) (wpAny_pure ?_)
    refine wpAny_bind (wpAny_cRoomFor (by show A.units + 1 < cLine; omega) ?_)
    refine wpAny_bind (m := callSpecialIfBound? (.ref x) (Str.ofString "__eq__") [b]) (PySem.W.ifBound_K kin J he hf (wpAny_mono h (fun v s' hv => ?_) fun _ _ z => z))
    obtain ⟨c, rfl, q⟩ := hv
    refine wpAny_bind (wpAny_truthy_bool ?_)
    exact wpAny_pure (wpAny_pure ⟨_, rfl, q⟩)
  unfold richCompare
  simp only [oneThing_ref]
  refine wpAny_holding (wpAny_bind (wpAny_cRoomFor (by omega) ?_))
  refine wpAny_bind (J.type.here (wpAny_bind (hb.here ?_)))
  split
  · rename_i q
    have e : PySem.W.subIn K tb (.ref C) = some false := by
      rcases Bool.or_eq_true_iff.mp hn with e | e
      · rw [beq_iff_eq.mp e] at q
        simp at q
      · exact beq_iff_eq.mp e
    refine wpAny_bind ((PySem.W.looks_subIn kin e).here ?_)
    simp only [Bool.false_eq_true, if_false]
    refine wpAny_bind (m := tryCompare (.ref x) _ b) (wpAny_mono one (fun r s' z => ?_) fun _ _ e => e)
    obtain ⟨v, rfl, hq⟩ := z
    exact wpAny_pure hq
  · refine wpAny_bind (wpAny_pure ?_)
    simp only [Bool.false_eq_true, if_false]
    refine wpAny_bind (m := tryCompare (.ref x) _ b) (wpAny_mono one (fun r s' z => ?_) fun _ _ e => e)
    obtain ⟨v, rfl, hq⟩ := z
    exact wpAny_pure hq

/-- o == y, o != y: the own __eq__ answers (y: the same class, or a thing whose type is no class below it) -/
def rEqO (K : PySem.W.Frag) (C : Addr) (neg : Bool) (sp : Sp) (E : XK) : R2 := fun x y H Q => ∃ a dx fs t, x = .ref a ∧ H a = some (.ins C dx fs) ∧ TyX K H y t ∧ PySem.W.notFirst K C t = true ∧
  sp [.ref a, y] H (fun v H' => ∃ c, v = .bl c ∧ Q (.bl (if neg then !c else c)) H') E
theorem op_eqO (F : Gd X.prog X.w X.K X.mg X.base CX k f fd ps sp) (rm : Room k X.A) (gd : X.A.guards = some []) (hs : PySem.W.findIn X.K (.ref C) "__eq__" = some (some (.ref f))) (hf : PySem.W.isFn X.K (.ref f) = true)
    (hb : Binds X.K fd ps []) (hx : Passes CX X E) : OpR X (compareOp .Eq) (rEqO X.K C false sp E) := by
  intro pins s σ H x y v u Q I rx ry h
  obtain ⟨a, dx, fs, t, rfl, ea, ty, nf, q⟩ := h
  obtain rfl : v = Value.ref a := rx
  obtain ⟨mA, J, _⟩ := ins_get I.hok ea
  obtain ⟨od, J, _⟩ := J.look
  obtain ⟨m, fr⟩ := I.fr
  obtain ⟨_, Z, pz, _⟩ := kit_of I ry ty
  have r2 : Vals [V.ref a, y] [Value.ref a, u] := .cons rfl (.cons ry .nil)
  have bt := bind_pos (dvs := []) (vs := [V.ref a, y]) F hb .nil I.kIn r2 q
  refine PySem.W.cmp_K (op := .Eq) rm.units0 fr I.ok.mod.kin J (Z.ty _ _ I.kIn pz) nf hs hf ?_
  refine wpAny_mono (run_g (us := [.ref a, u]) F rm gd hx I bt r2 q) (fun v s' hv => ?_) fun _ _ z => z
  obtain ⟨z, H', J', rz, c, ez, q'⟩ := hv
  subst ez
  obtain rfl : v = Value.bool c := rz
  exact ⟨.bl c, H', J', rfl, q'⟩
theorem op_neO (F : Gd X.prog X.w X.K X.mg X.base CX k f fd ps sp) (rm : Room (k + 1) X.A) (gd : X.A.guards = some []) (hs : PySem.W.findIn X.K (.ref C) "__eq__" = some (some (.ref f))) (hf : PySem.W.isFn X.K (.ref f) = true)
    (hn : PySem.W.findIn X.K (.ref C) "__ne__" = some (some (.builtin "object.__ne__"))) (hm : PySem.W.mroIn X.K C (.type "object") = some true)
    (hb : Binds X.K fd ps []) (hx : Passes CX X E) : OpR X (compareOp .NotEq) (rEqO X.K C true sp E) := by
  intro pins s σ H x y v u Q I rx ry h
  obtain ⟨a, dx, fs, t, rfl, ea, ty, nf, q⟩ := h
  obtain rfl : v = Value.ref a := rx
  obtain ⟨mA, J, _⟩ := ins_get I.hok ea
  obtain ⟨od, J, _⟩ := J.look
  obtain ⟨_, Z, pz, _⟩ := kit_of I ry ty
  have r2 : Vals [V.ref a, y] [Value.ref a, u] := .cons rfl (.cons ry .nil)
  have bt := bind_pos (dvs := []) (vs := [V.ref a, y]) F hb .nil I.kIn r2 q
  have room := rm.units
  refine ne_own (by omega) I.kIn J (Z.ty _ _ I.kIn pz) nf hm hn hs hf ?_
  refine wpAny_mono (run_at (us := [.ref a, u]) F rm.in1 (in1_gd gd) I.env0.in1 (fun e s' hq => hx pins σ H s e s' I hq) I bt r2 q) (fun v s' hv => ?_) fun _ _ z => z
  obtain ⟨z, H', J', rz, c, ez, q'⟩ := hv
  subst ez
  obtain rfl : v = Value.bool c := rz
  exact ⟨c, rfl, .bl (!c), H', J', rfl, q'⟩
end
end KG

set_option Elab.async false
set_option linter.all false
set_option maxRecDepth 100000
set_option maxHeartbeats 4000000
/-! KS: defs, methods and classes by name; the readings' steps, one lemma each, for walk_at "go". -/
namespace KG
open PySem PySem.Spec PyProof.Rows L2

/-! ### defs by name -/
/-- how the arguments of a def of the text bind, by place -/
def BindOk (x qual : Str) (st : Stmt) (ps : List Str) : Prop := ∀ (kV doc pm : Value) (an : Option Addr) (cdv ct : Value) (us : List Value), us.length = ps.length →
  bindArgs (PySem.W.fnOf x qual (defArgs st) (defBody st) (defScope st) .none kV doc pm an cdv ct) ⟨us, []⟩ = pure (ps.zip us)
/-- .. n by place, then by keywords, is: the keywords' places -/
def BindOkK (x qual : Str) (st : Stmt) (ps : List Str) (n : Nat) (ks : List Str) (is : List Nat) : Prop := ∀ (kV doc pm : Value) (an : Option Addr) (cdv ct : Value) (us ws : List Value), us.length = n → ws.length = ks.length →
  bindArgs (PySem.W.fnOf x qual (defArgs st) (defBody st) (defScope st) .none kV doc pm an cdv ct) ⟨us, ks.zip ws⟩ = pure (ps.zip (us ++ sel is ws))
/-- the def st stands under the name x -/
structure DefAt (K : PySem.W.Frag) (mg : Str → Option Value) (x : Str) (st : Stmt) (ps : List Str) : Prop where
  ex : ∃ f fd, mg x = some (.ref f) ∧ Fun K x x st f fd ∧ Binds K fd ps []
theorem defAt_of {K : PySem.W.Frag} {h : Heap} {mg : Str → Option Value} (X : K.In h) (G : h.Ns mainGlobals mg) {x : Str} {st : Stmt} {ps : List Str} {f : Addr} {oc kV doc pm cdv ct : Value} {od an : Option Addr} {sl : Array (Option Value)}
    (a : PySem.W.nsIn K mainGlobals x = some (some (.ref f))) (l : K.lookup f = some ⟨oc, od, .func (PySem.W.fnOf x x (defArgs st) (defBody st) (defScope st) .none kV doc pm an cdv ct), sl⟩)
    (c : PySem.W.codeIn K cdv x = true) (k : PySem.W.keepIn K (.ref f) = true) (b : BindOk x x st ps) : DefAt K mg x st ps :=
  have F := fun_mk (st := st) l c k
  ⟨⟨f, _, PySem.W.mg_of X G a, F, F.binds b⟩⟩
/-- the method st of the class at C -/
structure MetAt (K : PySem.W.Frag) (C : Addr) (m qual : Str) (st : Stmt) (ps : List Str) (f : Addr) : Prop where
  ex : ∃ fd, Meth K C m f ∧ Fun K m qual st f fd ∧ Binds K fd ps []
theorem metAt_of {K : PySem.W.Frag} {C : Addr} {m qual : Str} {st : Stmt} {ps : List Str} {f : Addr} {oc kV doc pm cdv ct : Value} {od an : Option Addr} {sl : Array (Option Value)}
    (a : PySem.W.findIn K (.ref C) m = some (some (.ref f))) (i : PySem.W.isFn K (.ref f) = true) (l : K.lookup f = some ⟨oc, od, .func (PySem.W.fnOf m qual (defArgs st) (defBody st) (defScope st) .none kV doc pm an cdv ct), sl⟩)
    (c : PySem.W.codeIn K cdv qual = true) (k : PySem.W.keepIn K (.ref f) = true) (b : BindOk m qual st ps) : MetAt K C m qual st ps f :=
  have F := fun_mk (st := st) l c k
  ⟨⟨_, ⟨a, i, k⟩, F, F.binds b⟩⟩
/-- the def st, promised sp, nothing raised -/
def Cal (P : Program) (w : World) (K : PySem.W.Frag) (mg : Str → Option Value) (base : Heap) (j : Nat) (x : Str) (sp : Sp) : Prop :=
  ∃ f fd ps, mg x = some (.ref f) ∧ PySem.W.keepIn K (.ref f) = true ∧ Binds K fd ps [] ∧ Gd P w K mg base CX0 j f fd ps sp
def Met (P : Program) (w : World) (K : PySem.W.Frag) (mg : Str → Option Value) (base : Heap) (j : Nat) (C : Addr) (m : Str) (f : Addr) (sp : Sp) : Prop :=
  ∃ fd ps, Meth K C m f ∧ Binds K fd ps [] ∧ Gd P w K mg base CX0 j f fd ps sp
def MetK (P : Program) (w : World) (K : PySem.W.Frag) (mg : Str → Option Value) (base : Heap) (j : Nat) (C : Addr) (m : Str) (f : Addr) (ks : List Str) (is : List Nat) (sp : Sp) : Prop :=
  ∃ fd ps, Meth K C m f ∧ KBn K fd ps 1 ks (fun us ws => us ++ sel is ws) (fun vs zs => vs ++ sel is zs) ∧ Gd P w K mg base CX0 j f fd ps sp
section
variable {P : Program} {w : World} {K : PySem.W.Frag} {mg : Str → Option Value} {base : Heap} {k : Nat} {x m qual : Str} {st : Stmt} {ps N : List Str} {sp : Sp} {C f : Addr}
/-- a def by its body -/
theorem DefAt.cal (D : DefAt K mg x st ps) (sc : FnScope N ps (defScope st)) (len : ∀ vs H Q E, sp vs H Q E → vs.length = ps.length)
    (inner : ∀ (f : Addr) (cdv : Value) (A : Around) (outer : List Env) (s : Shared) (H : Hp) (vs : List V) (Q : VK) (E : XK),
      Room k (A.deeper (envOfC x (defScope st) s.heap.objs.size f cdv)) → (A.deeper (envOfC x (defScope st) s.heap.objs.size f cdv)).guards = some [] → sp vs H Q E →
      ∃ t, PSs (cxOf CX0 P w K mg base N x (defScope st) f cdv A outer s H E).nox (defBody st) t ∧ t { nx := fun _ H' => Q .non H', rt := Q } (start N vs) H) :
    Cal P w K mg base (k + 1) x sp := by
  obtain ⟨f, fd, a, F, b⟩ := D.ex
  exact ⟨f, fd, ps, a, F.kp, b, gd0 F sc len (inner f)⟩
theorem MetAt.gd (D : MetAt K C m qual st ps f) (sc : FnScope N ps (defScope st)) (len : ∀ vs H Q E, sp vs H Q E → vs.length = ps.length)
    (inner : ∀ (cdv : Value) (A : Around) (outer : List Env) (s : Shared) (H : Hp) (vs : List V) (Q : VK) (E : XK),
      Room k (A.deeper (envOfC qual (defScope st) s.heap.objs.size f cdv)) → (A.deeper (envOfC qual (defScope st) s.heap.objs.size f cdv)).guards = some [] → sp vs H Q E →
      ∃ t, PSs (cxOf CX0 P w K mg base N qual (defScope st) f cdv A outer s H E).nox (defBody st) t ∧ t { nx := fun _ H' => Q .non H', rt := Q } (start N vs) H) :
    ∃ fd, Meth K C m f ∧ Fun K m qual st f fd ∧ Binds K fd ps [] ∧ Gd P w K mg base CX0 (k + 1) f fd ps sp := by
  obtain ⟨fd, a, F, b⟩ := D.ex
  exact ⟨fd, a, F, b, gd0 F sc len inner⟩
end
section
variable {X : Cx} {j k : Nat} {x m qual : Str} {sp : Sp} {C f : Addr} {p pos apos : Pos} {e o : Expr} {es : List Expr} {kws : List Keyword} {ta te : TE} {t tk : TA} {ks : List Str} {is : List Nat} {pl : Sem Bool}
theorem pc (c : Cal X.prog X.w X.K X.mg X.base j x sp) (rm : Room k X.A) (hk : j ≤ k) (gd : X.A.guards = some []) (gl : Gl X x) (ha : PA X (e :: es) t)
    (hdb : (x == ("__debug__" : Str)) = false := by decide) (he : starEach (e :: es) X.env = (false, eval e X.env) :: starEach es X.env := by rfl) (hpl : (backTo pos (starEach es X.env)).any (·.1) = false := by rfl) :
    PE X (.Call (.Name x p) (e :: es) [] pos) (tCall sp [] E0 t) := by
  obtain ⟨f, fd, ps, a, kp, b, F⟩ := c
  exact pe_gcall F (rm.mono hk) gd gl a kp b .nil pass0 ha hdb he hpl
theorem pc0 (c : Cal X.prog X.w X.K X.mg X.base j x sp) (rm : Room k X.A) (hk : j ≤ k) (gd : X.A.guards = some []) (gl : Gl X x)
    (hdb : (x == ("__debug__" : Str)) = false := by decide) : PE X (.Call (.Name x p) [] [] pos) (tCall sp [] E0 tNil) := by
  obtain ⟨f, fd, ps, a, kp, b, F⟩ := c
  exact pe_gcall0 F (rm.mono hk) gd gl a kp b .nil pass0 hdb
theorem pm (c : Met X.prog X.w X.K X.mg X.base j C m f sp) (cl : Cls X.K C) (rm : Room k X.A) (hk : j ≤ k) (gd : X.A.guards = some []) (he : PE X o ta) (ha : PA X (e :: es) t)
    (hst : starEach (e :: es) X.env = (false, eval e X.env) :: starEach es X.env := by rfl) (hpl : (backTo pos (starEach es X.env)).any (·.1) = false := by rfl)
    (ht : eval (.Call (.Attribute o m apos) (e :: es) [] pos) X.env = (do
      let w ← eval o X.env
      standAt apos.atName
      let (g, a) ← holding [w] (getMethod w m pl)
      callWith pos g a (backTo pos (starEach (e :: es) X.env)) (backToKw pos (keywordEach [] X.env))) := by rfl) :
    PE X (.Call (.Attribute o m apos) (e :: es) [] pos) (tMeth C m sp [] E0 ta t) := by
  obtain ⟨fd, ps, hm, b, F⟩ := c
  exact pe_gmeth he cl hm F (rm.mono hk) gd b .nil pass0 ha hst hpl ht
theorem pm0 (c : Met X.prog X.w X.K X.mg X.base j C m f sp) (cl : Cls X.K C) (rm : Room k X.A) (hk : j ≤ k) (gd : X.A.guards = some []) (he : PE X o ta)
    (ht : eval (.Call (.Attribute o m apos) [] [] pos) X.env = (do
      let w ← eval o X.env
      standAt apos.atName
      let (g, a) ← holding [w] (getMethod w m pl)
      callWith pos g a (backTo pos (starEach [] X.env)) (backToKw pos (keywordEach [] X.env))) := by rfl) :
    PE X (.Call (.Attribute o m apos) [] [] pos) (tMeth C m sp [] E0 ta tNil) := by
  obtain ⟨fd, ps, hm, b, F⟩ := c
  exact pe_gmeth0 he cl hm F (rm.mono hk) gd b .nil pass0 ht
theorem pmK (c : MetK X.prog X.w X.K X.mg X.base j C m f ks is sp) (cl : Cls X.K C) (rm : Room k X.A) (hk : j ≤ k) (gd : X.A.guards = some []) (he : PE X o ta) (hkw : PK X kws tk)
    (hall : (backToKw pos (keywordEach kws X.env)).all (·.1.isSome) = true := by rfl) (hks : (backToKw pos (keywordEach kws X.env)).filterMap (·.1) = ks := by rfl)
    (hpl : ((backTo pos (starEach [] X.env)).any (·.1) || (backToKw pos (keywordEach kws X.env)).any (·.1.isNone)) = false := by rfl)
    (ht : eval (.Call (.Attribute o m apos) [] kws pos) X.env = (do
      let w ← eval o X.env
      standAt apos.atName
      let (g, a) ← holding [w] (getMethod w m pl)
      callWith pos g a (backTo pos (starEach [] X.env)) (backToKw pos (keywordEach kws X.env))) := by rfl) :
    PE X (.Call (.Attribute o m apos) [] kws pos) (tMethK C m ks.length sp (fun vs zs => vs ++ sel is zs) E0 ta tk) := by
  obtain ⟨fd, ps, hm, b, F⟩ := c
  exact pe_gmethK he cl hm F (rm.mono hk) gd b pass0 hkw hall hks hpl ht
end

/-! ### ways that meet behind a statement -/
def tMid (t u : TS) : TS := fun D σ H => ∃ M : L2.St → Hp → Prop, t { D with nx := M } σ H ∧ ∀ σ' H', M σ' H' → u D σ' H'
theorem pss_mid {X : Cx} {st : Stmt} {rest : List Stmt} {t u : TS} (h1 : PS X st t) (h2 : PSs X rest u) : PSs X (st :: rest) (tMid t u) := by
  refine ⟨fun pins s σ H D I h => ?_⟩
  obtain ⟨M, a, b⟩ := h
  refine wpAny_execs_cons (thn (h1.run pins s σ H { D with nx := M } I a) fun f s1 q => ?_)
  match f, q with
  | .next, ⟨σ', H', J, q⟩ => exact h2.run pins s1 σ' H' D J (b σ' H' q)
  | .ret v, q => exact q
  | .brk, q => exact q
  | .cont, q => exact q

/-! ### steps -/
/-- what a field's read, a field's store asks -/
def Fld (K : PySem.W.Frag) (f : Str) (x : V) (H : Hp) (Q : VK) : Prop := ∃ a C dx fs v, x = .ref a ∧ H a = some (.ins C dx fs) ∧ Cls K C ∧ NoAttr K C f ∧ fs.lookup f = some v ∧ Q v H
theorem fld {K : PySem.W.Frag} {f : Str} {a C dx : Addr} {fs : List (Str × V)} {v : V} {H : Hp} {Q : VK} (h : H a = some (.ins C dx fs)) (c : Cls K C) (n : NoAttr K C f) (l : fs.lookup f = some v) (q : Q v H) : Fld K f (.ref a) H Q := ⟨a, C, dx, fs, v, rfl, h, c, n, l, q⟩
def SFld (K : PySem.W.Frag) (f : Str) (y x : V) (H : Hp) (QH : Hp → Prop) : Prop := ∃ a C dx fs, x = .ref a ∧ H a = some (.ins C dx fs) ∧ Cls K C ∧ NoAttr K C f ∧ fs.length < 1000 ∧ QH (upd H a (.ins C dx (putF f y fs)))
/-- .. the heap behind it a letter -/
theorem sfld {K : PySem.W.Frag} {f : Str} {a C dx : Addr} {fs gs : List (Str × V)} {y : V} {H : Hp} {QH : Hp → Prop} (h : H a = some (.ins C dx fs)) (c : Cls K C) (n : NoAttr K C f) (l : fs.length < 1000) (e : putF f y fs = gs)
    (q : ∀ H' : Hp, H' a = some (.ins C dx gs) → (∀ b, b ≠ a → H' b = H b) → QH H') : SFld K f y (.ref a) H QH := ⟨a, C, dx, fs, rfl, h, c, n, l, q _ (by rw [← e]; exact upd_same) fun b nb => upd_ne nb⟩
/-- what the making of an instance asks -/
def Make (C : Addr) (sp : Sp) (args : V → List V) (E : XK) (H : Hp) (Q : VK) : Prop := ∀ x dx, H x = none → H dx = none → dx ≠ x → sp (args (.ref x)) (upd (upd H dx (.own x)) x (.ins C dx [])) (fun v H3 => v = .non ∧ Q (.ref x) H3) E
theorem make {C : Addr} {sp : Sp} {args : V → List V} {E : XK} {H : Hp} {Q : VK} (q : ∀ (x dx : Addr) (H' : Hp), H x = none → H' x = some (.ins C dx []) → Same H H' → sp (args (.ref x)) H' (fun v H3 => v = .non ∧ Q (.ref x) H3) E) : Make C sp args E H Q :=
  fun x dx nx ndx _ => q x dx _ nx upd_same fun b o e => by
    rw [upd_ne (ne_of_none e nx), upd_ne (ne_of_none e ndx)]
    exact e
/-- a dict's display, store and read -/
def DAll (p : Addr) (ps : List (V × V)) (Q : VK) (H : Hp) : Prop := H p = some (.dK []) ∧ ∃ kvs : List (Key × V), ps = kvs.map (fun kv => (kV kv.1, kv.2)) ∧ kvs.length ≤ 15 ∧ Q (.ref p) (upd H p (.dK (mergeK [] kvs)))
theorem dall {p : Addr} {ps : List (V × V)} {Q : VK} {H : Hp} {ks : List (Key × V)} (kvs : List (Key × V)) (h : H p = some (.dK [])) (e : ps = kvs.map (fun kv => (kV kv.1, kv.2))) (l : kvs.length ≤ 15) (m : mergeK [] kvs = ks)
    (q : ∀ H' : Hp, H' p = some (.dK ks) → (∀ b, b ≠ p → H' b = H b) → Q (.ref p) H') : DAll p ps Q H := ⟨h, kvs, e, l, q _ (by rw [← m]; exact upd_same) fun b nb => upd_ne nb⟩
def DPutQ (v x y : V) (H : Hp) (QH : Hp → Prop) : Prop := ∃ a H4, x = .ref a ∧ DPut H a y v H4 ∧ QH H4
theorem dput {v : V} {p : Addr} {H : Hp} {QH : Hp → Prop} {kvs ks : List (Key × V)} (k : Key) (h : H p = some (.dK kvs)) (l : kvs.length < sizeLine) (m : putK kvs k v = ks)
    (q : ∀ H' : Hp, H' p = some (.dK ks) → (∀ b, b ≠ p → H' b = H b) → QH H') : DPutQ v (.ref p) (kV k) H QH := ⟨p, _, rfl, DPut.k h l, q _ (by rw [← m]; exact upd_same) fun b nb => upd_ne nb⟩
def DGetQ (x y : V) (H : Hp) (Q : VK) : Prop := ∃ a v, x = .ref a ∧ DGet H a y (some v) ∧ Q v H
theorem dget {v : V} {p : Addr} {H : Hp} {Q : VK} {kvs : List (Key × V)} (k : Key) (h : H p = some (.dK kvs)) (e : valV kvs k = some v) (q : Q v H) : DGetQ (.ref p) (kV k) H Q := ⟨p, v, rfl, by rw [← e]; exact DGet.k h, q⟩
/-- what a for asks -/
def Loop (J : It) (g : TG) (tb : TS) (D : Ends) (σ : L2.St) (H : Hp) : Prop := ∃ W : Nat → Nat → L2.St → Hp → Prop, (∃ m, W 0 m σ H) ∧ ∀ i m σ H, W i m σ H →
  (J.stop i H ∧ D.nx σ H) ∨ (J.go i H ∧ ∃ N : L2.St → Hp → Prop, (∀ σ' H', N σ' H' → ∃ m', m' < m ∧ W (i + 1) m' σ' H') ∧ ∀ x H', J.yld i H x H' → g x σ H' fun σ2 H2 => tb { D with nx := N, ct := N, bk := D.nx } σ2 H2)
def OverT (K : PySem.W.Frag) (x : V) (H : Hp) (R : It → Hp → Prop) : Prop := ∃ a, x = .ref a ∧ (∃ xs, SqT K H a xs) ∧ R (Itt K a) H
theorem over_t {K : PySem.W.Frag} {a : Addr} {xs : List V} {H : Hp} {R : It → Hp → Prop} (h : SqT K H a xs) (q : R (Itt K a) H) : OverT K (.ref a) H R := ⟨a, rfl, ⟨xs, h⟩, q⟩
def OverL (K : PySem.W.Frag) (x : V) (H : Hp) (R : It → Hp → Prop) : Prop := ∃ a, x = .ref a ∧ (∃ xs, SqL K H a xs) ∧ R (Itl K a) H
theorem over_l {K : PySem.W.Frag} {a : Addr} {xs : List V} {H : Hp} {R : It → Hp → Prop} (h : SqL K H a xs) (q : R (Itl K a) H) : OverL K (.ref a) H R := ⟨a, rfl, ⟨xs, h⟩, q⟩
def OverR (vs : List V) (H : Hp) (R : It → Hp → Prop) : Prop := ∃ j : Int, vs = [.int j] ∧ -(2 ^ 62) ≤ j ∧ j < 2 ^ 62 ∧ R (Itr 0 j.toNat) H
theorem over_r {j : Int} {H : Hp} {R : It → Hp → Prop} (h1 : -(2 ^ 62) ≤ j) (h2 : j < 2 ^ 62) (q : R (Itr 0 j.toNat) H) : OverR [.int j] H R := ⟨j, rfl, h1, h2, q⟩
/-- what a method's call asks of the object -/
def Mth (C : Addr) (m : Str) (x : V) (H : Hp) (B : Prop) : Prop := ∃ a dx fs, x = .ref a ∧ H a = some (.ins C dx fs) ∧ fs.lookup m = none ∧ B
theorem mth {C a dx : Addr} {m : Str} {fs : List (Str × V)} {H : Hp} {B : Prop} (h : H a = some (.ins C dx fs)) (l : fs.lookup m = none) (q : B) : Mth C m (.ref a) H B := ⟨a, dx, fs, rfl, h, l, q⟩
/-- a tuple of the written part -/
def KTup (K : PySem.W.Frag) (a : Addr) (xs : List V) : Prop := ∃ (o : Obj) (its : Array Value) (n : Nat), K.lookup a = some o ∧ o.cls = .type "tuple" ∧ o.data = .seq its n ∧ its.size ≤ sizeLine ∧ Vals xs its.toList
theorem KTup.t {K : PySem.W.Frag} {a : Addr} {xs : List V} (h : KTup K a xs) (H : Hp) : SqT K H a xs := .inr h
/-- what a display asks: a new object -/
def New (o : List V → HO) (Q : VK) (xs : List V) (H : Hp) : Prop := xs.length ≤ sizeLine ∧ ∀ p, H p = none → Q (.ref p) (upd H p (o xs))
/-- .. the heap behind it a letter -/
theorem new {o : List V → HO} {Q : VK} {xs : List V} {H : Hp} (h : xs.length ≤ sizeLine) (q : ∀ (p : Addr) (H' : Hp), H p = none → H' p = some (o xs) → Same H H' → Q (.ref p) H') : New o Q xs H :=
  ⟨h, fun p np => q p _ np upd_same fun b u e => by rw [upd_ne (ne_of_none e np)]; exact e⟩
section
variable {σ : L2.St} {H : Hp} {Q : VK} {v : V} {ta tb te : TE} {t u : TS} {D : Ends} {i j : Int} {tc : TT} {QB : Bool → Hp → Prop} {QA : List V → Hp → Prop} {tr : TA} {r : R2}
theorem w_var {n : Nat} (h : σ[n]? = some (some v)) (q : Q v H) : tVar n σ H Q := ⟨v, h, q⟩
theorem w_c (q : Q v H) : tC v σ H Q := q
theorem w_op (q : ta σ H fun x H1 => tb σ H1 fun y H2 => r x y H2 Q) : tOp r ta tb σ H Q := q
theorem w_un {r : V → Hp → VK → Prop} (q : ta σ H fun x H1 => r x H1 Q) : tUn r ta σ H Q := q
theorem w_add (q : Q (.int (i + j)) H) : rI0 (fun i j => .int (i + j)) (.int i) (.int j) H Q := ⟨i, j, rfl, rfl, q⟩
theorem w_sub (q : Q (.int (i - j)) H) : rI0 (fun i j => .int (i - j)) (.int i) (.int j) H Q := ⟨i, j, rfl, rfl, q⟩
theorem w_mul (c : CMul i j) (q : Q (.int (i * j)) H) : rI CMul (fun i j => .int (i * j)) (.int i) (.int j) H Q := ⟨i, j, rfl, rfl, c, q⟩
theorem w_mod (c : 0 < j) (q : Q (.int (i % j)) H) : rI (fun _ j => 0 < j) (fun i j => .int (i % j)) (.int i) (.int j) H Q := ⟨i, j, rfl, rfl, c, q⟩
theorem w_fdiv (c : CDiv i j) (q : Q (.int (i / j)) H) : rI CDiv (fun i j => .int (i / j)) (.int i) (.int j) H Q := ⟨i, j, rfl, rfl, c, q⟩
theorem w_pow (c : CPow i j) (q : Q (.int (i ^ j.toNat)) H) : rI CPow (fun i j => .int (i ^ j.toNat)) (.int i) (.int j) H Q := ⟨i, j, rfl, rfl, c, q⟩
theorem w_and (q : Q (.int (Builtin.bitAnd i j)) H) : rI0 (fun i j => .int (Builtin.bitAnd i j)) (.int i) (.int j) H Q := ⟨i, j, rfl, rfl, q⟩
theorem w_or (q : Q (.int (Builtin.bitOr i j)) H) : rI0 (fun i j => .int (Builtin.bitOr i j)) (.int i) (.int j) H Q := ⟨i, j, rfl, rfl, q⟩
theorem w_xor (q : Q (.int (Builtin.bitXor i j)) H) : rI0 (fun i j => .int (Builtin.bitXor i j)) (.int i) (.int j) H Q := ⟨i, j, rfl, rfl, q⟩
theorem w_gt (q : Q (.bl (decide (j < i))) H) : rI0 (fun i j => .bl (decide (j < i))) (.int i) (.int j) H Q := ⟨i, j, rfl, rfl, q⟩
theorem w_lt (q : Q (.bl (decide (i < j))) H) : rI0 (fun i j => .bl (decide (i < j))) (.int i) (.int j) H Q := ⟨i, j, rfl, rfl, q⟩
theorem w_ge (q : Q (.bl (decide (j ≤ i))) H) : rI0 (fun i j => .bl (decide (j ≤ i))) (.int i) (.int j) H Q := ⟨i, j, rfl, rfl, q⟩
theorem w_le (q : Q (.bl (decide (i ≤ j))) H) : rI0 (fun i j => .bl (decide (i ≤ j))) (.int i) (.int j) H Q := ⟨i, j, rfl, rfl, q⟩
theorem w_eq {x y : V} (s : scal x y = true) (q : Q (.bl (decide (x = y))) H) : rEq x y H Q := ⟨s, q⟩
theorem w_ne {x y : V} (s : scal x y = true) (q : Q (.bl (!decide (x = y))) H) : rNe x y H Q := ⟨s, q⟩
theorem w_test (q : te σ H fun x H' => ∃ k, x = .bl k ∧ QB k H') : tTest te σ H QB := q
theorem w_tB (q : te σ H fun x H' => ∃ k, x = .bl k ∧ QB k H') : tB te σ H QB := q
theorem w_bl {b : Bool} {B : Bool → Prop} (q : B b) : ∃ k, V.bl b = .bl k ∧ B k := ⟨b, rfl, q⟩
theorem w_seq (q : t { D with nx := u D } σ H) : tSeq t u D σ H := q
theorem w_ret (q : te σ H D.rt) : tRet te D σ H := q
theorem w_next (q : D.nx σ H) : tNext D σ H := q
theorem w_asg {g : TG} (q : te σ H fun x H1 => g x σ H1 D.nx) : tAsg te g D σ H := q
theorem w_gname {n : Nat} {QS : L2.St → Hp → Prop} (q : QS (σ.set n (some v)) H) : gName n v σ H QS := q
theorem w_ifs (q : tc σ H fun b H1 => if b = true then t D σ H1 else u D σ H1) : tIfS tc t u D σ H := q
theorem w_ifx (q : tc σ H fun c H1 => if c = true then ta σ H1 Q else tb σ H1 Q) : tIf tc ta tb σ H Q := q
theorem w_nil (q : QA [] H) : tNil σ H QA := q
theorem w_cons (q : ta σ H fun x H1 => tr σ H1 fun xs H2 => QA (x :: xs) H2) : tCons ta tr σ H QA := q
theorem w_tup (q : tr σ H fun xs H1 => New HO.tup Q xs H1) : tTup tr σ H Q := q
theorem w_lst (q : tr σ H fun xs H1 => New HO.lst Q xs H1) : tLst tr σ H Q := q
theorem w_and2 {tt uu : TT} (q : tt σ H fun c H1 => if c = true then uu σ H1 QB else QB false H1) : tAnd tt uu σ H QB := q
theorem w_or2 {tt uu : TT} (q : tt σ H fun c H1 => if c = true then QB true H1 else uu σ H1 QB) : tOr tt uu σ H QB := q
theorem w_not {tt : TT} (q : tt σ H fun c H1 => QB (!c) H1) : tNot tt σ H QB := q
theorem w_cb {r : List V → Hp → VK → Prop} (q : tr σ H fun vs H1 => r vs H1 Q) : tCB r tr σ H Q := q
theorem w_call {sp : Sp} {dvs : List V} {E : XK} (q : tr σ H fun vs H1 => sp (vs ++ dvs) H1 Q E) : tCall sp dvs E tr σ H Q := q
theorem w_ixL {K : PySem.W.Frag} {p : Addr} {xs : List V} (h : SqL K H p xs) (a : atI xs i = some v) (q : Q v H) : rIxL K (.ref p) (.int i) H Q := ⟨p, xs, i, v, rfl, rfl, h, a, q⟩
theorem w_ixT {K : PySem.W.Frag} {p : Addr} {xs : List V} (h : SqT K H p xs) (a : atI xs i = some v) (q : Q v H) : rIxT K (.ref p) (.int i) H Q := ⟨p, xs, i, v, rfl, rfl, h, a, q⟩
theorem w_gsub {to ti : TE} {ts : TSet} {QS : L2.St → Hp → Prop} (q : to σ H fun o H1 => ti σ H1 fun i H2 => ts o i v H2 fun H3 => QS σ H3) : gSub to ti ts v σ H QS := q
theorem w_setL {p : Addr} {xs : List V} {n : Nat} {QH : Hp → Prop} (h : H p = some (.lst xs)) (a : ixN xs.length i = some n) (q : QH (upd H p (.lst (xs.set n v)))) : rSetL (.ref p) (.int i) v H QH := ⟨p, xs, i, n, rfl, rfl, h, a, q⟩
/-- the store, the heap behind it a letter -/
theorem w_setG {p : Addr} {xs ys : List V} {n : Nat} {QH : Hp → Prop} (h : H p = some (.lst xs)) (a : ixN xs.length i = some n) (e : xs.set n v = ys)
    (q : ∀ H' : Hp, H' p = some (.lst ys) → (∀ b, b ≠ p → H' b = H b) → QH H') : rSetL (.ref p) (.int i) v H QH := ⟨p, xs, i, n, rfl, rfl, h, a, q _ (by rw [← e]; exact upd_same) fun b nb => upd_ne nb⟩
theorem w_fld {K : PySem.W.Frag} {f : Str} (q : ta σ H fun x H1 => Fld K f x H1 Q) : tFld K ta f σ H Q := q
theorem w_sfld {K : PySem.W.Frag} {tv : TE} {f : Str} (q : tv σ H fun y H1 => ta σ H1 fun x H2 => SFld K f y x H2 (fun H3 => D.nx σ H3)) : sFld K ta tv f D σ H := q
theorem w_par {m n : Nat} {ta : TA} (q : ta σ H fun vs H1 => ∃ v w, vs = [v, w] ∧ D.nx ((σ.set m (some v)).set n (some w)) H1) : tPar m n ta D σ H := q
theorem w_andV {ta tb : TE} (q : ta σ H fun x H1 => ∃ c, x = .bl c ∧ if c = true then tb σ H1 Q else Q (.bl false) H1) : tAndV ta tb σ H Q := q
theorem w_orV {ta tb : TE} (q : ta σ H fun x H1 => ∃ c, x = .bl c ∧ if c = true then Q (.bl true) H1 else tb σ H1 Q) : tOrV ta tb σ H Q := q
theorem w_mid (M : L2.St → Hp → Prop) (a : t { D with nx := M } σ H) (b : ∀ σ' H', M σ' H' → u D σ' H') : tMid t u D σ H := ⟨M, a, b⟩
theorem w_in {K : PySem.W.Frag} {neg : Bool} {x : V} {p : Addr} {xs : List V} (h : SqL K H p xs ∨ SqT K H p xs) (f : flatV x = true) (fs : xs.all flatV = true) (q : Q (.bl (if neg then !inV x xs else inV x xs)) H) : rIn K neg x (.ref p) H Q := ⟨p, xs, rfl, h, f, fs, q⟩
theorem w_kd {K : PySem.W.Frag} {w : World} {p : Addr} {z : Str} (h : KDct K w p z v) (q : Q v H) : rIxD K w (.ref p) (.str z) H Q := ⟨p, z, v, rfl, rfl, h, q⟩
theorem w_meth {C : Addr} {m : Str} {sp : Sp} {dvs : List V} {E : XK} {tr : TA} (q : ta σ H fun x H1 => Mth C m x H1 (tr σ H1 fun vs H2 => sp (x :: (vs ++ dvs)) H2 Q E)) : tMeth C m sp dvs E ta tr σ H Q := q
theorem w_methK {C : Addr} {m : Str} {n : Nat} {sp : Sp} {gV : List V → List V → List V} {E : XK} {tr : TA} (q : ta σ H fun x H1 => Mth C m x H1 (tr σ H1 fun zs H2 => zs.length = n ∧ sp (gV [x] zs) H2 Q E)) : tMethK C m n sp gV E ta tr σ H Q := q
theorem w_for {wi : TI} {g : TG} {tb : TS} (q : wi σ H fun J H1 => Loop J g tb D σ H1) : tFor wi g tb D σ H := q
theorem w_itup {K : PySem.W.Frag} {tl : TE} {R : It → Hp → Prop} (q : tl σ H fun x H1 => OverT K x H1 R) : iTup K tl σ H R := q
theorem w_ilist {K : PySem.W.Frag} {tl : TE} {R : It → Hp → Prop} (q : tl σ H fun x H1 => OverL K x H1 R) : iList K tl σ H R := q
theorem w_irng {ta : TA} {R : It → Hp → Prop} (q : ta σ H fun vs H1 => OverR vs H1 R) : iRng1 ta σ H R := q
theorem w_disp {trs : List (TE × TE)} (q : ∀ (p : Addr) (H1 : Hp), H p = none → H1 p = some (.dK []) → Same H H1 → tPairs trs σ H1 fun ps H2 => DAll p ps Q H2) : tDisp trs σ H Q :=
  fun p np => q p _ np upd_same fun b u e => by rw [upd_ne (ne_of_none e np)]; exact e
theorem w_pnil {QP : List (V × V) → Hp → Prop} (q : QP [] H) : tPairs [] σ H QP := q
theorem w_pcons {tk tv : TE} {r : List (TE × TE)} {QP : List (V × V) → Hp → Prop} (q : tk σ H fun x H1 => tv σ H1 fun y H2 => tPairs r σ H2 fun ps H3 => QP ((x, y) :: ps) H3) : tPairs ((tk, tv) :: r) σ H QP := q
theorem w_dput {td ty tv : TE} (q : tv σ H fun v H1 => td σ H1 fun x H2 => ty σ H2 fun y H3 => DPutQ v x y H3 (fun H4 => D.nx σ H4)) : sDPut td ty tv D σ H := q
theorem w_dget {td ty : TE} (q : td σ H fun x H1 => ty σ H1 fun y H2 => DGetQ x y H2 Q) : tDGet td ty σ H Q := q
theorem w_make {C : Addr} {sp : Sp} {dvs : List V} {E : XK} {tr : TA} (q : tr σ H fun vs H1 => Make C sp (fun x => x :: (vs ++ dvs)) E H1 Q) : tMake C sp dvs E tr σ H Q := q
theorem w_makeK {C : Addr} {n : Nat} {sp : Sp} {gV : List V → List V → List V} {E : XK} {tr : TA} (q : tr σ H fun zs H2 => zs.length = n ∧ Make C sp (fun x => gV [x] zs) E H2 Q) : tMakeKG C n sp gV E tr σ H Q := q
theorem w_drop (q : te σ H fun _ H1 => D.nx σ H1) : tDrop te D σ H := q
end
end KG

set_option Elab.async false
set_option linter.all false
set_option maxRecDepth 100000
set_option maxHeartbeats 4000000
/-! KX: an error that a suite keeps under another name, and what is asked of it later. -/
namespace KG
open PySem PySem.Spec PyProof.Rows L2

/-- a caught error of the class cls at a, its dict d -/
def ErrO (cls : Value) (d : Option Addr) (a : Addr) : HO := .ext fun h => ∃ (oe : Obj) (vs : Array Value), h.get? a = some oe ∧ Zc cls d oe ∧ oe.data = .fields vs
theorem errO_ok {P : Program} {w : World} {H : Hp} {h : Heap} {cls : Value} {d : Option Addr} {a : Addr} {oe : Obj} {vs : Array Value} (e : h.get? a = some oe) (z : Zc cls d oe) (dd : oe.data = .fields vs) : ObjOk P w H h a (ErrO cls d a) :=
  ⟨⟨oe, vs, e, z, dd⟩, ⟨oe, e⟩, fun _ _ ⟨o, v, q, r⟩ k => ⟨o, v, k o q, r⟩⟩
theorem errO_at {P : Program} {w : World} {H : Hp} {h : Heap} {cls : Value} {d : Option Addr} {a : Addr} (hok : HOk P w H h) (e : H a = some (ErrO cls d a)) : ∃ (oe : Obj) (vs : Array Value), h.get? a = some oe ∧ Zc cls d oe ∧ oe.data = .fields vs := by
  have x : ObjOk P w H h a (.ext fun h => ∃ (oe : Obj) (vs : Array Value), h.get? a = some oe ∧ Zc cls d oe ∧ oe.data = .fields vs) := hok a _ e
  exact x.1

section
variable {X : Cx} {pins : List (Addr × Obj)} {σ : L2.St} {H : Hp} {s : Shared}
/-- an object that was not there at the entry is known from now on -/
theorem inv_know {a : Addr} {oe : Obj} {vs : Array Value} {o : HO} (I : Inv X pins σ H s) (ha : s.heap.get? a = some oe) (hd : oe.data = .fields vs) (new : ObjOk X.prog X.w (upd H a o) s.heap a o) (na : H a = none) (nL : a ≠ X.env.locals)
    (n0 : X.s_0.heap.get? a = none) (np : ∀ p ∈ X.pn ++ pins, p.1 ≠ a) : Inv X pins σ (upd H a o) s := by
  have nT : ∀ {b u}, H b = some u → b ≠ a := fun e => ne_of_none e na
  have nC : ∀ x c, X.env.cells.lookup x = some c → c ≠ a := fun x c e z => by
    obtain ⟨v, oc, e1, e2⟩ := I.cell x c e
    rw [z, ha] at e1
    cases e1
    rw [hd] at e2
    cases e2
  refine ⟨I.ok, I.os, I.bare, ⟨I.base.keep, I.base.slot, fun b u e n hx => ?_, I.base.there, fun b xs e => ?_, fun b u v e => ?_, fun b ps e => ?_⟩, I.loc, I.cell, ?_, fun x c e => ?_, fun p hp => ?_, fun b u e => ?_, I.len⟩
  · rw [upd_ne (fun z => by rw [z, n0] at e; cases e)]
    exact I.base.free b u e n hx
  · have q := I.base.tups b xs e
    rw [upd_ne (nT q)]; exact q
  · have q := I.base.frzs b u v e
    rw [upd_ne (nT q)]; exact q
  · obtain ⟨m, q⟩ := I.base.tbls b ps e
    exact ⟨m, by rw [upd_ne (nT q)]; exact q⟩
  · rw [upd_ne (Ne.symm nL)]; exact I.free
  · rw [upd_ne (nC x c e)]; exact I.freeC x c e
  · obtain ⟨e, n, ne, nf, d⟩ := I.pin p hp
    exact ⟨e, by rw [upd_ne (np p hp)]; exact n, ne, nf, d⟩
  · by_cases hb : b = a
    · subst hb
      rw [upd_same] at e
      cases e
      exact new
    · rw [upd_ne hb] at e
      exact (I.hok b u e).stay (fun c v _ q => q) (fun c q => by rw [upd_ne (nT q)]; exact q) fun c xs q => by rw [upd_ne (nT q)]; exact q
end

/-- what the clause wishes, the error known behind its suite; slot i is the name's -/
def wKeep (K : PySem.W.Frag) (c : Value) (i : Nat) (ts : Addr → Value → Option Addr → TS) (Wout : WX) (D : Ends) : WX := fun cls d σ H => ∃ b, PySem.W.exmOne K cls c = some b ∧
  (b = true → ∀ a, H a = none → ts a cls d
    { nx := fun τ G => D.nx (τ.set i none) (upd G a (ErrO cls d a)), rt := fun v G => D.rt v (upd G a (ErrO cls d a)), bk := fun τ G => D.bk (τ.set i none) (upd G a (ErrO cls d a)), ct := fun τ G => D.ct (τ.set i none) (upd G a (ErrO cls d a)) } (σ.set i (some (.ref a))) H) ∧
  (b = false → Wout cls d σ H)

/-- an object of fields is no frame -/
theorem off_frames {B h : Heap} {l : List Env} {a : Addr} {o : Obj} {vs : Array Value} (ff : h.FunFrames B l) (e : h.get? a = some o) (d : o.data = .fields vs) : a ∉ frs l := by
  intro inside
  have ⟨_, p, ep, plain⟩ := ff.mem inside
  have same : o = p := Option.some.inj (e.symm.trans ep)
  exact plain vs (same ▸ d)
/-- where a caught error lies: beside the frames, the pins and all that was there at the entry -/
structure Beside (X : Cx) (pins : List (Addr × Obj)) (a : Addr) : Prop where
  own : a ≠ X.env.locals
  outer : a ∉ X.fs
  entry : X.s_0.heap.get? a = none
  pinned : ∀ p ∈ X.pn ++ pins, p.1 ≠ a
section
variable {X : Cx} {x n : Str} {c : Value} {i : Nat} {body suite : List Stmt} {b₀ : Stmt} {np pos pos' : Pos} {tb : WX → TS} {ts : Addr → Value → Option Addr → TS} {Wout : WX} {pins : List (Addr × Obj)} {σ : L2.St} {H : Hp} {s : Shared} {D : Ends}
theorem beside_of {B : Heap} {a : Addr} (stk : X.stack = X.env :: X.outer) (fr : X.env.frame = some X.env.locals) (noex : X.ex = []) (I : Inv X pins σ H s) (ground : ∀ b o, s.heap.get? b = some o → b ∉ frs X.stack → B.get? b = some o)
    (fresh : B.get? a = none) (off : a ∉ frs (X.env :: X.outer)) : Beside X pins a := by
  have gap : s.heap.get? a = none := by
    rcases e : s.heap.get? a with _ | o
    · rfl
    · have below := ground a o e (by rw [stk]; exact off)
      exact absurd (fresh.symm.trans below) (by simp)
  constructor
  · intro z
    refine off (List.mem_filterMap.mpr ⟨X.env, .head _, ?_⟩)
    rw [z, fr]
  · intro inside
    have ⟨env, henv, at_⟩ := List.mem_filterMap.mp inside
    exact off (List.mem_filterMap.mpr ⟨env, .tail _ henv, at_⟩)
  · rcases e : X.s_0.heap.get? a with _ | o
    · rfl
    · have ⟨_, still⟩ := I.base.there a o e (by rw [noex]; simp)
      exact absurd (gap.symm.trans still) (by simp)
  · intro p hp z
    have kept := (I.pin p hp).1
    rw [z] at kept
    exact absurd (gap.symm.trans kept) (by simp)
/-- the way out of the suite: the name goes, the error is known -/
theorem way_out {a : Addr} {oe : Obj} {vs : Array Value} {cls : Value} {d : Option Addr} {R : Shared → Prop} (ok : X.Ok) (nd : X.N.Nodup) (place : X.N[i]? = some n) (loc : X.env.kindOf n = some .local) (by_ : Beside X pins a) (z : Zc cls d oe) (dd : oe.data = .fields vs)
    (S : Inv (X.suite a ((a, oe) :: (X.pn ++ pins))) [] σ H s) (next : ∀ s', Inv X pins (σ.set i none) (upd H a (ErrO cls d a)) s' → R s') :
    wpAny (model X.prog X.w) X.A (do bindName X.env n .none; unbindBehindTheSuite X.env n pos') (fun _ s' => R s') X.xe s := by
  refine gone_ok (X := X.suite a ((a, oe) :: (X.pn ++ pins))) (pins := []) S nd place loc fun s' S' => next s' ?_
  have ⟨there, free, _⟩ := S'.pin (a, oe) (List.mem_append_left _ (.head _))
  exact inv_know (S'.unsuite ok) there dd (errO_ok there z dd) free by_.own by_.entry by_.pinned
/-- the clause's class by its name, within the suite's marks -/
theorem class_of_clause {a : Addr} {oe : Obj} {Q E : Value → Shared → Prop} (hc : Names X x c) (S : Inv (X.suite a ((a, oe) :: (X.pn ++ pins))) [] σ H s) (q : Q c s) : wpAny (model X.prog X.w) (X.A.mark (some (.ref a))) (eval (.Name x np) X.env) Q E s := by
  have ⟨glob, plain, from_⟩ := hc
  rcases from_ with own | ⟨no, boot, nn⟩
  · exact ld_glob (X := X.suite a ((a, oe) :: (X.pn ++ pins))) S glob own q plain
  · exact ld_blt (X := X.suite a ((a, oe) :: (X.pn ++ pins))) S glob no boot q nn plain
/-- an error that comes out of the body meets the clause -/
theorem clause_meets {xe₀ : Value → Shared → Prop} {u : Value} {s' : Shared} (stk : X.stack = X.env :: X.outer) (fr : X.env.frame = some X.env.locals) (noex : X.ex = []) (nd : X.N.Nodup) (place : X.N[i]? = some n) (loc : X.env.kindOf n = some .local) (hc : Names X x c) (tk : Takes X Wout)
    (inner : ∀ (a : Addr) (oe : Obj) (cls : Value) (d : Option Addr) (pn : List (Addr × Obj)), Zc cls d oe → (∃ vs, oe.data = .fields vs) → PSs (X.suite a ((a, oe) :: pn)) (b₀ :: suite) (ts a cls d)) (ok : X.Ok) (xx : XE (X.tr (X.pn ++ pins) xe₀) (wKeep X.K c i ts Wout D) u s') :
    wpAny (model X.prog X.w) X.A (noteFrame u X.env) (fun _ s₂ => wpAny (model X.prog X.w) X.A (setFlight u none) (fun _ s₃ => wpAny (model X.prog X.w) X.A (handleBy u X.env [.ExceptHandler (some (.Name x np)) (some n) (b₀ :: suite) pos']) (SP X pins D) X.xe s₃) X.xe s₂) X.xe s' := by
  have ⟨a, B, sI, _, τ, G, cls, d, eu, J', ground, grown, sky, free, os, bare, b, which, yes, no⟩ := xx
  subst eu
  have J : Inv X pins τ G sI := J'.ofTry ok
  have all_frames : X.A.frames = some (X.env :: X.outer) := stk ▸ ok.frames
  refine Sky.land (Zc.steady (cls := cls) (d := d)) all_frames fr (stk ▸ sky) fun h1 fl1 g1 => ?_
  have I1 : Inv X pins τ G { s' with heap := h1 } := J.landed ground fl1.1 (grown.trans g1) os bare
  have ⟨o1, v1, at1, z1, d1⟩ := fl1.there
  have by_ : Beside X pins a := beside_of stk fr noex J ground fl1.2.1 (off_frames fl1.2.2.1 at1 d1)
  have T1 := I1.suite at1 d1 free by_.own by_.outer
  have kind : PySem.W.Looks (model X.prog X.w) h1 (typeOf (.ref a)) cls := fun _ _ _ _ keeps q => wpAny_typeOf_ref (keeps _ _ at1) (z1.1.symm ▸ q)
  refine wpAny_handleBy_cons (codeAny_handlers_test (class_of_clause hc T1 ((PySem.W.exm_one (M := model X.prog X.w) I1.kIn kind which).here ?_))) (fun z => nomatch z)
  rcases b with _ | _
  · -- another clause's, or nobody's: it goes on
    refine wpAny_handleBy_nil ?_
    have goes : wpAny (model X.prog X.w) X.A (setFlight (.ref a) X.env.frame) (fun _ s₄ => wpAny (model X.prog X.w) X.A (throw (.ref a) : Sem Flow) (SP X pins D) X.xe s₄) X.xe { s' with heap := h1 } := by
      rw [fr]
      exact HandSPX.setFlight_upZ fl1 fun h2 held g2 => wpAny_throw (tk _ _ ⟨a, B, sI, pins, τ, G, cls, d, rfl, J, ground, (grown.trans g1).trans g2, .inr (.inr (by rw [stk]; exact held)), free, os, bare, no rfl⟩)
    have ⟨_, _, _, _, _, T, _, _, atE, _, dE, first, _⟩ := fl1
    unfold PySem.passOn
    refine wpAny_bind (wpAny_field atE dE first ?_)
    have some_ : ¬ ((Value.ref T == Value.none) = true) := by simp
    rw [if_neg some_]
    first
      | exact wpAny_bind (wpAny_pure (wpAny_bind goes))
      | exact wpAny_bind goes
  · -- this clause's: the suite
    refine codeAny_handlers_suite_as (HandSPX.lands_againZ fl1 fun h2 fl2 g2 => ?_)
    have ⟨o2, v2, at2, z2, d2⟩ := fl2.there
    have T2 := (J.landed ground fl2.1 ((grown.trans g1).trans g2) os bare : Inv X pins τ G { s' with heap := h2 }).suite at2 d2 free by_.own by_.outer
    refine store_ok (X := X.suite a ((a, o2) :: (X.pn ++ pins))) (v := .ref a) T2 nd place (.inl loc) rfl (fun s3 T3 => ?_) (.inr loc)
    refine wpAny_mono ((inner a o2 cls d (X.pn ++ pins) z2 ⟨_, d2⟩).run [] s3 _ G _ T3 (yes rfl a free)) (fun flow s4 ends => ?_) (fun _ _ z => False.elim z)
    match flow, ends with
    | .next, ⟨_, _, T4, q⟩ => exact way_out ok nd place loc by_ z2 d2 T4 fun _ I5 => ⟨_, _, I5, q⟩
    | .brk, ⟨_, _, T4, q⟩ => exact way_out ok nd place loc by_ z2 d2 T4 fun _ I5 => ⟨_, _, I5, q⟩
    | .cont, ⟨_, _, T4, q⟩ => exact way_out ok nd place loc by_ z2 d2 T4 fun _ I5 => ⟨_, _, I5, q⟩
    | .ret _, ⟨_, _, _, T4, r, q⟩ => exact way_out ok nd place loc by_ z2 d2 T4 fun _ I5 => ⟨_, _, _, I5, r, q⟩
/-- try: body / except x as n: suite; the error is known behind the suite -/
theorem ps_try_keep (hs : X.stack = X.env :: X.outer) (hf : X.env.frame = some X.env.locals) (hex : X.ex = []) (hN : X.N.Nodup) (hi : X.N[i]? = some n) (hln : X.env.kindOf n = some .local) (hc : Names X x c) (tk : Takes X Wout)
    (hb : ∀ (W : WX) (pn : List (Addr × Obj)) (xe : Value → Shared → Prop), Takes (X.tr pn xe) W → PassesOwn (model X.prog X.w) X.A X.env xe → PSs (X.tr pn xe) body (tb W))
    (hsu : ∀ (a : Addr) (oe : Obj) (cls : Value) (d : Option Addr) (pn : List (Addr × Obj)), Zc cls d oe → (∃ vs, oe.data = .fields vs) → PSs (X.suite a ((a, oe) :: pn)) (b₀ :: suite) (ts a cls d)) :
    PS X (.Try body [.ExceptHandler (some (.Name x np)) (some n) (b₀ :: suite) pos'] [] [] pos) (fun D σ H => tb (wKeep X.K c i ts Wout D) D σ H) := by
  constructor
  intro pins s σ H D I start_
  refine wpAny_Try_except ?_
  refine wpAny_mono ((hb _ (X.pn ++ pins) (fun u s₁ => wpAny (model X.prog X.w) X.A (noteFrame u X.env) (fun _ s₂ => wpAny (model X.prog X.w) X.A (setFlight u none) (fun _ s₃ => wpAny (model X.prog X.w) X.A (handleBy u X.env [.ExceptHandler (some (.Name x np)) (some n) (b₀ :: suite) pos']) (SP X pins D) X.xe s₃) X.xe s₂) X.xe s₁)
    (fun _ _ xx => clause_meets hs hf hex hN hi hln hc tk hsu I.ok xx) PassesOwn.looking).run [] s σ H D (I.toTry _) start_) (fun flow s1 ends => ?_) (fun _ _ z => z)
  match flow, ends with
  | .next, ⟨_, _, T, q⟩ => exact wpAny_execs_nil ⟨_, _, T.ofTry I.ok, q⟩
  | .brk, ⟨_, _, T, q⟩ => exact ⟨_, _, T.ofTry I.ok, q⟩
  | .cont, ⟨_, _, T, q⟩ => exact ⟨_, _, T.ofTry I.ok, q⟩
  | .ret _, ⟨_, _, _, T, r, q⟩ => exact ⟨_, _, _, T.ofTry I.ok, r, q⟩
end

/-! ### what is asked of a known error -/
/-- isinstance(e, c): D the error's class -/
def rIsErr (K : PySem.W.Frag) : List V → Hp → VK → Prop := fun xs H Q => ∃ (a D : Addr) (dd : Addr) (fs : List (Str × V)) (c : V) (cv : Value) (b : Bool), xs = [.ref a, c] ∧ H a = some (ErrO (.ref D) (some dd) a) ∧ H dd = some (.xd fs) ∧ ExcC K D ∧
  (∀ u, RelV c u → u = cv) ∧ PySem.W.kitOne K (.ref D) cv = some b ∧ Q (.bl b) H
theorem excC_cls {K : PySem.W.Frag} {D : Addr} (C : ExcC K D) : (PySem.W.clsIn K D).isSome = true := by
  obtain ⟨cd, hc, _⟩ := PySem.W.any_some C.hd
  rw [hc] <;> rfl
theorem call_isErr {X : Cx} : CallR X (.builtin "isinstance") (rIsErr X.K) := by
  intro pins s σ H xs us Q I r h
  obtain ⟨a, D, dd, fs, c, cv, b, rfl, ha, hdd, C, hcv, e, q⟩ := h
  cases r with
  | cons rx rr =>
    cases rr with
    | cons rt rr =>
      cases rr
      cases rx
      have ec := hcv _ rt
      subst ec
      obtain ⟨oe, vs, hget, hz, hv⟩ := errO_at I.hok ha
      obtain ⟨mA, ⟨od, _, _, ho, _⟩, _⟩ := I.hok dd _ hdd
      have J : PySem.W.InstAt s.heap a oe D (some od) := by
        obtain ⟨oc, oda, odt, osl⟩ := oe
        obtain ⟨h1, h2⟩ := hz
        dsimp only at h1 h2 hv
        subst h1 h2 hv
        exact ⟨hget, rfl, rfl, ho⟩
      exact PySem.W.kia_one (PySem.W.kitx_exc (excC_cls C) C.hg C.hk C.hs C.ha C.hn C.ht C.hm) I.kIn J e (fun z => nomatch z) fun tk => ⟨.bl b, H, I.kept (t' := tk) fun _ _ z => z, rfl, q⟩
/-- e.f of a known error -/
def tErrF (K : PySem.W.Frag) (te : TE) (f : Str) : TE := fun σ H Q => te σ H fun x H1 => ∃ (a C dd : Addr) (fs : List (Str × V)) (v : V), x = .ref a ∧ H1 a = some (ErrO (.ref C) (some dd) a) ∧ H1 dd = some (.xd fs) ∧ XfC K C ∧ PySem.W.findIn K (.ref C) f = some none ∧ fs.lookup f = some v ∧ Q v H1
theorem pe_errf {X : Cx} {e : Expr} {te : TE} {pos : Pos} {n : Str} (he : PE X e te) (hb : attributeBase e n X.env (eval e X.env) = eval e X.env := by rfl) : PE X (.Attribute e n pos) (tErrF X.K te n) := by
  refine ⟨fun pins s σ H Q I h => ?_⟩
  refine attr_of hb (thn (he.run pins s σ H _ I h) fun u s1 hh => ?_)
  obtain ⟨x, H1, I1, rx, a, C, dd, fs, v, ex, ha, hdd, T, hno, l, q⟩ := hh
  subst ex
  obtain rfl : u = Value.ref a := rx
  obtain ⟨oe, vs, hget, hz, hv⟩ := errO_at I1.hok ha
  obtain ⟨mA, hns, hr⟩ := I1.hok dd _ hdd
  obtain ⟨od, ho, hl⟩ := lookIn_ns hns
  obtain ⟨u, hu, ru⟩ := RelO.some_of (v := v) (o := mA n) (by rw [← l]; exact hr n)
  have J : PySem.W.InstAt s1.heap a oe C (some od) := ⟨hget, hz.1, by unfold PySem.W.notCls; rw [hv] <;> rfl, by rw [hz.2]; exact ho⟩
  exact HandSPX.exc_get I1.kIn J T.ga T.gg T.exC (PySem.W.findObj_own T.hdC hno rfl (by rw [hl, hu])) (handed_of ru) ⟨v, H1, I1.tok _, ru, q⟩
end KG

set_option Elab.async false
set_option linter.all false
set_option maxRecDepth 100000
set_option maxHeartbeats 4000000
/-! KE1: an own error, its __init__ of two lines: super().__init__('..'), self.f = value. -/
namespace KG
open PySem PySem.Spec PySem.Calls PyProof.Rows L2
open PySem.W (ksFn ksEnv)

/-- what the written part says of such a class at C, its __init__ at fI; pv: the value's name, fld: the field -/
structure ErrC (prog : Program) (K : PySem.W.Frag) (C fI : Addr) (qual pv fld : Str) (params : Arguments) (body : List Stmt) (scope : Scope) : Prop where
  cls : OexC K C
  ini : PySem.W.findIn K (.ref C) "__init__" = some (some (.ref fI))
  fn : PySem.W.typeIn K (.ref fI) = some (.type "function")
  fun_ : ∃ (oc kV doc pm ct : Value) (an od : Option Addr) (cda cc : Addr) (osl : Array (Option Value)) (ccl cl : Value) (cdd cld : Option Addr) (vs : Array Value) (ccs csl : Array (Option Value)) (file : Str) (tf : Tok),
    K.lookup fI = some ⟨oc, od, .func (ksFn "__init__" qual params body scope .none kV doc pm an (.ref cda) ct cc), osl⟩ ∧ PySem.W.codeIn K (.ref cda) qual = true ∧
    K.lookup cda = some ⟨ccl, cdd, .fields vs, ccs⟩ ∧ vs[2]? = some (.str file tf) ∧ ((prog.main.file : Str) == file) = true ∧ K.lookup cc = some ⟨cl, cld, .cell (some (.ref C)), csl⟩
  self_ : PySem.W.mroIn K C (.ref C) = some true
  up : PySem.W.ks_superIn K C C "__init__" = some (some (.builtin "ValueError.__init__"))
  sub : PySem.W.subIn K (.ref C) (.type "ValueError") = some true
  opq : PySem.W.nsIn K cStatics "thirdparty.any" = some none
  nosup : PySem.W.nsIn K mainGlobals "super" = some none
  top : (prog.main.scope.names.lookup ("super" : Str)).isSome = false
  nofld : PySem.W.findIn K (.ref C) fld = some none

/-- the two lines -/
def errBody (msg pv fld : Str) (j : Nat) (p0 p1 p2 p3 p4 p5 p6 p7 p8 p9 : Pos) : List Stmt :=
  [.Expr (.Call (.Attribute (.Call (.Name "super" p0) [] [] p1) "__init__" p2) [.Constant (.str msg) j p3] [] p4) p5,
   .Assign [.Attribute (.Name "self" p6) fld p7] (.Name pv p8) p9]

/-- what the text of the two lines says -/
structure ErrT (qual pv fld msg : Str) (params : Arguments) (scope : Scope) (j : Nat) (p0 p1 p2 p3 p4 p5 p6 p7 p8 p9 : Pos) : Prop where
  bind : ∀ (kV doc pm : Value) (an : Option Addr) (cdv ct : Value) (cc : Addr) (x y : Value), bindArgs (ksFn "__init__" qual params (errBody msg pv fld j p0 p1 p2 p3 p4 p5 p6 p7 p8 p9) scope .none kV doc pm an cdv ct cc) ⟨[x, y], []⟩ = pure [(("self" : Str), x), (pv, y)]
  ev : ∃ pl : Env → Sem Bool, ∀ env : Env, eval (.Call (.Attribute (.Call (.Name "super" p0) [] [] p1) "__init__" p2) [.Constant (.str msg) j p3] [] p4) env = (do
      let ov ← attributeBase (.Call (.Name "super" p0) [] [] p1) "__init__" env (eval (.Call (.Name "super" p0) [] [] p1) env)
      standAt p2.atName
      let (f, first) ← holding [ov] (getMethod ov "__init__" (pl env))
      callWith p4 f first (backTo p4 (starEach [.Constant (.str msg) j p3] env)) [])
  par : (params.posonlyargs ++ params.args).head?.map (·.arg) = some "self"
  k1 : scope.names.lookup ("self" : Str) = some .local
  k2 : scope.names.lookup pv = some .local
  k3 : scope.names.lookup ("super" : Str) = some .globalImplicit
  k4 : scope.names.lookup ("__class__" : Str) = some .free
  npv : pv ≠ "self"
  npd : (pv == ("__debug__" : Str)) = false
  cell : ∀ x ∈ scope.names, x.2 ≠ .cell
  co : scope.isCoroutine = false
  gen : scope.isGenerator = false
  kind : scope.kind = .function

section
variable {prog : Program} {w : World} {A : Around} {R : Result → Shared → Prop} {K : PySem.W.Frag} {mg mb : Str → Option Value} {C fI : Addr} {qual pv fld msg : Str} {params : Arguments} {scope : Scope} {j : Nat} {p0 p1 p2 p3 p4 p5 p6 p7 p8 p9 : Pos}
theorem err_init {s : Shared} {e t0 : Addr} {u : Value} (T : ErrC prog K C fI qual pv fld params (errBody msg pv fld j p0 p1 p2 p3 p4 p5 p6 p7 p8 p9) scope)
    (kin : K.In s.heap) (nsm : s.heap.Ns mainGlobals mg) (nsb : s.heap.Ns builtinsNs mb) (mbb : ∀ x : Str, x ≠ "__name__" → mb x = bootBuiltins x) (lim : s.heap.NoLimit) (dep : A.depth < recursionLimit)
    (he : s.heap.get? e = some (PySem.HandSPX.excO C t0)) (nK : K.lookup e = none)
    (bind : ∀ (kV doc pm : Value) (an : Option Addr) (cdv ct : Value) (cc : Addr) (x y : Value), bindArgs (ksFn "__init__" qual params (errBody msg pv fld j p0 p1 p2 p3 p4 p5 p6 p7 p8 p9) scope .none kV doc pm an cdv ct cc) ⟨[x, y], []⟩ = pure [(("self" : Str), x), (pv, y)])
    (pl : Env → Sem Bool) (hev : ∀ env : Env, eval (.Call (.Attribute (.Call (.Name "super" p0) [] [] p1) "__init__" p2) [.Constant (.str msg) j p3] [] p4) env = (do
      let ov ← attributeBase (.Call (.Name "super" p0) [] [] p1) "__init__" env (eval (.Call (.Name "super" p0) [] [] p1) env)
      standAt p2.atName
      let (f, first) ← holding [ov] (getMethod ov "__init__" (pl env))
      callWith p4 f first (backTo p4 (starEach [.Constant (.str msg) j p3] env)) []))
    (hpar : (params.posonlyargs ++ params.args).head?.map (·.arg) = some "self")
    (k1 : scope.names.lookup ("self" : Str) = some .local) (k2 : scope.names.lookup pv = some .local) (k3 : scope.names.lookup ("super" : Str) = some .globalImplicit) (k4 : scope.names.lookup ("__class__" : Str) = some .free)
    (npv : pv ≠ "self") (hpd : (pv == ("__debug__" : Str)) = false) (hcell : ∀ x ∈ scope.names, x.2 ≠ .cell) (hco : scope.isCoroutine = false) (hgen : scope.isGenerator = false) (hk : scope.kind = .function)
    (hq : ∀ h' t' dx, (∀ b o, b ≠ e → s.heap.get? b = some o → h'.get? b = some o) → s.heap.objs.size ≤ dx → dx ≠ e →
      (∃ t1 : Addr, h'.get? e = some ({ cls := .ref C, dict := some dx, data := .fields #[.ref t1, .none, .none, .none, .bool false, .none] } : Obj)) → h'.Ns1 dx (fun y => if y = fld then some u else none) →
      R (.ok (.ret .none)) { s with heap := h', toks := t' }) :
    codeAny (model prog w) A (.call (.ref fI) ⟨[.ref e, u], []⟩) R s := by
  obtain ⟨oc, kV, doc, pm, ct, an, od, cda, cc, osl, ccl, cl, cdd, cld, vs, ccs, csl, file, tf, lkF, code, lkC, hvs, hfile, lkCell⟩ := T.fun_
  obtain ⟨nm, q, N, bs, bm, sn, sub, ab, col, dd, c0, c1, c2, c3, c5, hC, hbm⟩ := T.cls.cls
  have hcl : PySem.W.clsIn K C = some { name := nm, bases := bs, mro := .ref C :: bm, ns := N, qualname := q, hasDict := true, slotNames := sn, subclasses := sub, abstract := ab, collection := col, hasDel := false } := by
    unfold PySem.W.clsIn
    rw [hC] <;> rfl
  obtain ⟨ar, har, hself⟩ : ∃ ar, (params.posonlyargs ++ params.args).head? = some ar ∧ ar.arg = "self" := by
    cases z : (params.posonlyargs ++ params.args).head? with
    | none => rw [z] at hpar; cases hpar
    | some ar => rw [z] at hpar; exact ⟨ar, rfl, Option.some.inj hpar⟩
  have eC : e ≠ C := fun z => by
    have z1 := kin _ _ hC
    rw [z, z1] at he
    cases he
  refine ks_codeAny_call_defAt (fd := ksFn "__init__" qual params (errBody msg pv fld j p0 p1 p2 p3 p4 p5 p6 p7 p8 p9) scope .none kV doc pm an (.ref cda) ct cc) (body := errBody msg pv fld j p0 p1 p2 p3 p4 p5 p6 p7 p8 p9) (binds := [(("self" : Str), .ref e), (pv, u)])
    dep (kin _ _ lkF) rfl lim (PySem.W.codeRec_of kin code) rfl (.of_eq (bind ..)) hcell (fun y hy => ?_) (fun h1 ns1 kp1 => ?_) hco hgen hk
  · rcases List.mem_cons.mp hy with z | z
    · rw [z]; exact k1
    · rcases List.mem_cons.mp z with z | z
      · rw [z]; exact k2
      · cases z
  have kin1 : K.In h1 := kin.keeps kp1
  obtain ⟨hp, g, d, t, os⟩ := s
  have hint : interactive (callEnv (ksFn "__init__" qual params (errBody msg pv fld j p0 p1 p2 p3 p4 p5 p6 p7 p8 p9) scope .none kV doc pm an (.ref cda) ct cc) hp.objs.size fI) = false := by
    unfold interactive
    simp [callEnv, newEnv, hk]
  refine ks_wpAt_execs_cons (ks_wpAt_Expr_any (ks_wpAt_MethodCall (ks_wpAt_super_base k3 k4 (by decide) rfl (kin1 _ _ lkF) rfl har rfl (kin1 _ _ lkC) rfl hvs hfile T.top ?_) (hev _)) hint)
  refine PySem.W.ks_loadName_global hk k3 (loadGlobal_builtin (nsm.keeps kp1) (PySem.W.mg_none_of kin nsm T.nosup) (nsb.keeps kp1) ((mbb _ (by decide +kernel)).trans (by decide +kernel)) ⟨rfl, ?_⟩)
  refine wpAny_loadName_free hk k4 rfl ⟨_, kin1 _ _ lkCell, rfl⟩ ?_
  rw [hself]
  refine wpAny_loadName_local hk k1 ns1 (v := .ref e) ?_ ?_
  · show List.lookup ("self" : Str) ([(("self" : Str), Value.ref e), (pv, u)] : List (Str × Value)).reverse = _
    simp [List.lookup, beq_eq_false_iff_ne.mpr (Ne.symm npv)]
  have he1 : h1.get? e = some (PySem.HandSPX.excO C t0) := kp1 _ _ he
  have hD1 := kin1 _ _ hC
  refine ks_wpAny_isType_cls hD1 rfl ⟨rfl, ?_⟩
  refine ks_wpAny_call_super hD1 rfl he1 rfl (fun c z => by cases z) (PySem.W.looks_mroIn kin1 T.self_) (fun h2 eso kp2 => ?_)
  have kin2 : K.In h2 := kin1.keeps kp2
  have he2 := kp2 _ _ he1
  have inst2 : PySem.W.InstAt h2 e (PySem.HandSPX.excO C t0) C none := ⟨he2, rfl, rfl, trivial⟩
  have sup := T.up
  unfold PySem.W.ks_superIn at sup
  rw [hcl] at sup
  refine PySem.W.kxs_getMethod PySem.W.kxs_ValueError eso (PySem.W.looks_opaque kin2 T.opq) (l₀ := Value.ref C :: bm) (fun A Q E s k q => wpAny_bind ((PySem.W.looks_clsIn kin2 hcl) A _ E s k (wpAny_pure q))) rfl kin2 sup (inst2.type.andThen (PySem.W.looks_subIn kin2 T.sub)) eC (by decide) ?_
  have ku := Heap.get?_push_size h2 (o := PySem.W.kxs_mw "ValueError.__init__" e) rfl
  have kp3 : ∀ b o, h2.get? b = some o → (h2.push (PySem.W.kxs_mw "ValueError.__init__" e)).get? b = some o := fun b o z => Heap.get?_push_of_some _ z
  refine PySem.W.kxs_callWith (i := "ValueError.__init__") (x := e) rfl (evalArgs_plain (Calls.spliced_cons (Calls.Constant_str (k := j) (pos := p3) (Calls.spliced_nil ⟨ku, ?_⟩))))
  have he3 := kp3 _ _ he2
  have hC3 := kp3 _ _ (kp2 _ _ hD1)
  refine wpAny_call (codeAny_of_tree ?_)
  show wpAny _ (Around.in1 _) (callAny (.ref h2.objs.size) ⟨[.str msg _], []⟩) _ _ _
  simp only [callAny]
  refine wpAny_bind (wpAny_load ku ?_)
  simp only [PySem.W.kxs_mw, show (Value.type "method-wrapper" == Value.type "method" || Value.type "method-wrapper" == Value.type "builtin_function_or_method" || Value.type "method-wrapper" == Value.type "method-wrapper") = true by decide, if_true]
  refine PySem.W.KFB.if_so (by decide) ?_
  refine wpAny_bind (PySem.W.check_bound_init PySem.F.excBase_ValueError.toExcCallFacts hC3 he3 rfl ?_)
  refine wpAny_bind (wpAny_pure (wpAny_pure ?_))
  refine ⟨plainId_quiet PySem.F.excBase_ValueError.init.plain _, codeAny_builtin PySem.F.excBase_ValueError.initEntry ?_⟩
  refine PySem.W.exc_init_tree (cls := .ref C) (t0 := t0) (dv := none) (c2 := .none) (c3 := .none) (b4 := .bool false) he3 (by show 1 ≤ sizeLine; rw [sizeLine_eq]; omega) fun h4 kp4 he4 _ => ?_
  have neF : hp.objs.size ≠ e := Nat.ne_of_gt (Heap.lt_size he)
  have kin4 : K.In h4 := fun b o z => kp4 b o (fun y => by
    rw [y, nK] at z
    cases z) (kp3 _ _ (kin2 b o z))
  have ns4 : h4.Ns hp.objs.size (fun y => ([(("self" : Str), Value.ref e), (pv, u)] : List (Str × Value)).reverse.lookup y) := by
    obtain ⟨o, es, ep, ho, r⟩ := ns1
    exact ⟨o, es, ep, kp4 _ _ neF (kp3 _ _ (kp2 _ _ ho)), r⟩
  refine ks_wpAt_execs_cons (ks_wpAt_Assign_Attr ?_)
  refine wpAt_of_wpAny (wpAny_Name ?_ hpd)
  refine wpAny_loadName_local hk k2 ns4 (v := u) ?_ ?_
  · show List.lookup pv ([(("self" : Str), Value.ref e), (pv, u)] : List (Str × Value)).reverse = _
    simp [List.lookup]
  refine wpAny_Name ?_ (by decide)
  refine wpAny_loadName_local hk k1 ns4 (v := .ref e) ?_ ?_
  · show List.lookup ("self" : Str) ([(("self" : Str), Value.ref e), (pv, u)] : List (Str × Value)).reverse = _
    simp [List.lookup, beq_eq_false_iff_ne.mpr (Ne.symm npv)]
  refine PySem.W.set_plain kin4 (ox := _) (od := none) ⟨he4, rfl, rfl, trivial⟩ T.cls.sa ?_
  refine PySem.HandSPX.exc_osa kin4 he4 hcl (show PySem.HandSPX.refsVE (.ref C :: bm) = true from hbm) rfl T.nofld (fun h5 tk5 dx kp5 dn dne hx hn => ?_)
  show _root_.PySem.wpAt _ _ _ (execs [] _) _ _ _
  refine wpAt_of_wpAny (wpAny_execs_nil (hq h5 tk5 dx (fun b o ne z => kp5 b o ne (kp4 b o ne (kp3 _ _ (kp2 _ _ (kp1 _ _ z))))) ?_ dne ⟨_, hx⟩ hn))
  obtain ⟨oL, _, _, hoL, _⟩ := ns4
  exact Nat.le_trans (Nat.le_of_lt (Heap.lt_size hoL)) dn
end

section
variable {X : Cx} {k : Nat} {C fI : Addr} {x qual pv fld msg : Str} {params : Arguments} {scope : Scope} {j : Nat} {p0 p1 p2 p3 p4 p5 p6 p7 p8 p9 p pos : Pos} {e : Expr} {es : List Expr} {ta : TA}
/-- the making of an own error: its reading -/
def tErr (C : Addr) (fld : Str) (ta : TA) : L2.St → Hp → XK → Prop := fun σ H Q => ta σ H fun vs H1 => ∃ v, vs = [v] ∧ ∀ (dx : Addr) (H2 : Hp), H1 dx = none → H2 dx = some (.xd [(fld, v)]) → (∀ b, b ≠ dx → H2 b = H1 b) → Q (.ref C) (some dx) H2
theorem pmk_err (T : ErrC X.prog X.K C fI qual pv fld params (errBody msg pv fld j p0 p1 p2 p3 p4 p5 p6 p7 p8 p9) scope) (TT : ErrT qual pv fld msg params scope j p0 p1 p2 p3 p4 p5 p6 p7 p8 p9)
    (hr : Room (k + 1) X.A) (hg : Gl X x) (hm : X.mg x = some (.ref C)) (ha : PA X (e :: es) ta)
    (hdb : (x == ("__debug__" : Str)) = false := by decide) (hs : starEach (e :: es) X.env = (false, eval e X.env) :: starEach es X.env := by rfl) (hpl : (backTo pos (starEach es X.env)).any (·.1) = false := by rfl) :
    PMk X (.Call (.Name x p) (e :: es) [] pos) (tErr C fld ta) := by
  intro pins s σ H Q I h
  obtain ⟨nm, q, N, bs, bm, sn, sub, ab, col, dd, c0, c1, c2, c3, c5, hC, hbm⟩ := T.cls.cls
  refine wpAny_Call_Name_kw (ld_glob I hg hm ?_ hdb)
  refine PySem.W.callWith_K (h₀ := X.base) I.ok.mod.kin T.cls.kC (thn (ha.run pos pins s σ H _ I h) fun us s1 ⟨vs, H1, I1, r1, q1⟩ => ⟨I1.kIn, ?_⟩) hs hpl
  obtain ⟨v, ev, q1⟩ := q1
  subst ev
  obtain ⟨u, eu, ru⟩ := vals1 r1
  subst eu
  show wpAny _ _ (call (.ref C) [u]) _ _ _
  have mod := I1.mod
  obtain ⟨mb, nsb0, mbb⟩ := mod.blt
  have nsm := mod.glob.keeps I1.bk
  have nsb := nsb0.keeps I1.bk
  have lim := I1.nolimit
  have kin := I1.kIn
  have bare := I1.bare
  have fresh : ∀ {b : Addr}, s1.heap.objs.size ≤ b → H1 b = none := fun hb => I1.hok.fresh hb
  obtain ⟨hp, g, dr, tk, os⟩ := s1
  have kk : ∀ b o, hp.get? b = some o → ((hp.push (PySem.W.kdv_tup [u])).push (PySem.HandSPX.excO C hp.objs.size)).get? b = some o := fun b o z => Heap.get?_push_of_some _ (Heap.get?_push_of_some _ z)
  have hget : ((hp.push (PySem.W.kdv_tup [u])).push (PySem.HandSPX.excO C hp.objs.size)).get? (hp.objs.size + 1) = some (PySem.HandSPX.excO C hp.objs.size) := by heap_get
  have nK : X.K.lookup (hp.objs.size + 1) = none := by
    cases z : X.K.lookup (hp.objs.size + 1) with
    | none => rfl
    | some o => exact absurd (Heap.lt_size (kin _ _ z)) (Nat.not_lt.mpr (Nat.le_succ _))
  refine wpAny_call (PySem.HandSPX.call_own F.excBase_ValueError (fun Y => PySem.HandSPX.refsVE_contains Y bm hbm) (kin _ _ hC) (PySem.W.looks_findIn kin T.ini) (fun self => PySem.W.bind_fn kin self T.fn) (by show 1 ≤ sizeLine; rw [sizeLine_eq]; omega)
    (err_init (mg := X.mg) (mb := mb) (t0 := hp.objs.size) (e := hp.objs.size + 1) (u := u) T (kin.keeps kk) (nsm.keeps kk) (nsb.keeps kk) mbb (lim.keeps kk) (hr.make C [u] []).depth hget nK TT.bind TT.ev.choose TT.ev.choose_spec TT.par TT.k1 TT.k2 TT.k3 TT.k4 TT.npv TT.npd TT.cell TT.co TT.gen TT.kind
      fun h' t' dx kp dn dne hx hn => ⟨rfl, ?_⟩))
  obtain ⟨t1, hx⟩ := hx
  have dn' : hp.objs.size ≤ dx := Nat.le_trans (by simp only [Heap.size_push]; omega) dn
  have ne_old : ∀ {b : Addr} {o : Obj}, hp.get? b = some o → b ≠ hp.objs.size + 1 := fun z => Nat.ne_of_lt (Nat.lt_succ_of_lt (Heap.lt_size z))
  obtain ⟨G, g1, g2⟩ := restrict h' fun b => decide (b ≠ hp.objs.size + 1)
  have gk : ∀ b, b ≠ hp.objs.size + 1 → G.get? b = h'.get? b := fun b hb => g1 b (decide_eq_true hb)
  have ge : G.get? (hp.objs.size + 1) = none := g2 _ (by simp)
  have J : Inv X pins σ (upd H1 dx (.xd [(fld, v)])) ⟨G, g, dr, t', os⟩ := I1.laid (h' := G) (a := dx) (o := .xd [(fld, v)]) (t' := t') (fun b o z => (gk b (ne_old z)).trans (kp b o (ne_old z) (kk b o z))) dn'
    ⟨_, hn.at fun o y => (gk dx dne).trans y, relO_put (fs := []) ru fun g => True.intro⟩
  have nd : H1 dx = none := fresh dn'
  have na : upd H1 dx (.xd [(fld, v)]) (hp.objs.size + 1) = none := by
    rw [upd_ne (Ne.symm dne)]
    exact fresh (Nat.le_succ _)
  refine ⟨hp.objs.size + 1, _, _, ⟨G, g, dr, t', os⟩, _, .ref C, some dx, rfl, J, fun b o z => ?_, ge, hx, ⟨rfl, rfl⟩, rfl, rfl, na, rfl, bare, raises_own T.cls.exC T.cls.tyC, q1 dx _ nd upd_same fun b nb => upd_ne nb⟩
  by_cases hb : b = hp.objs.size + 1
  · rw [hb, ge] at z
    cases z
  · exact (gk b hb).symm.trans z
end
end KG

set_option Elab.async false
set_option linter.all false
set_option maxRecDepth 100000
set_option maxHeartbeats 1000000
/-! KH: a lambda without parameters handed to a def of the text, where nothing is shown; the end of a law whose defs lay code objects. -/
namespace KG
open PySem PySem.Spec PySem.Calls PyProof.Rows L2 LamX

/-- the lambda: its names, no parameters -/
structure LamT (sc scope : Scope) (params : Arguments) (body : Expr) : Prop where
  names : LamS sc scope
  bind : ∀ (q : Str) (cl : List (Str × Addr)) (pm cv ctv : Value), bindArgs (PySem.W.kla_fn "<lambda>" q params body scope cl pm cv ctv) ⟨[], []⟩ = pure []

/-- the frame of the def g that got it, entered from X at s -/
abbrev inDef (X : Cx) (N : List Str) (x : Str) (st : Stmt) (g : Addr) (cd : Value) (s : Shared) (H : Hp) : Cx := cxOf C8.CX0 X.prog X.w X.K X.mg X.base N x (defScope st) g cd X.A X.stack s H C8.E0
section
variable {X : Cx} {pins : List (Addr × Obj)} {σ : L2.St} {H HZ : Hp} {s : Shared} {k i : Nat} {N : List Str} {x a : Str} {st : Stmt} {g f c' : Addr} {cd pm ctv : Value} {params : Arguments} {body : Expr} {scope : Scope} {W : WX} {E : XK} {tb : TE} {p1 p2 : Pos}
/-- the lambda runs: from a frame over X's, at s1 -/
theorem lam_run {s1 : Shared} {env : Env} {A : Around} {Q : VK} (I : Inv X pins σ H s) (L : LamT X.env.scope scope params body) (e0 : Env0 X.prog X.w X.K X.mg X.base A (env :: X.stack) s1 HZ) (un : Un (frs X.stack) [] H HZ s.heap s1.heap) (lim : s1.heap.NoLimit)
    (rm : Room (k + 1) A) (gd : A.guards = some []) (fo : s1.heap.get? f = some (PySem.W.kla_obj "<lambda>" (X.env.qual ++ "<lambda>") params body scope (cloFrom X.env.cells scope.names []) pm c' ctv)) (co : ∃ (oc : Obj) (vs : Array Value) (t : Tok), s1.heap.get? c' = some oc ∧ oc.data = .fields vs ∧ vs[1]? = some (.str (X.env.qual ++ "<lambda>") t))
    (hbody : Room k (A.deeper (lamEnv X scope s1.heap.objs.size f c')) → (A.deeper (lamEnv X scope s1.heap.objs.size f c')).guards = some [] → PE (lamCx X A (env :: X.stack) s1 HZ E scope f c') body tb) (q : tb σ HZ Q) :
    codeAny (model X.prog X.w) A (.call (.ref f) ⟨[], []⟩) (CR (L2.CX X.prog X.w) (env :: X.stack) X.prog X.w HZ s1 Q E) s1 := by
  obtain ⟨oc, vs, t, g1, g2, g3⟩ := co
  refine PySem.W.kla_callFunE rm.depth fo rfl L.names.co L.names.gen rfl ⟨c', oc, vs, t, rfl, g1, g2, g3⟩ ?_
  rw [L.bind]
  refine wpAny_pure (wpAny_newFunctionEnv (fun y hy => (L.names.own y hy).2) (fun y hy => absurd hy List.not_mem_nil) (fun h2 ns2 sb2 => ⟨lim.fresh _ sb2, PySem.W.kla_codeExpr ?_⟩) L.names.kind)
  have kp : ∀ b o, s1.heap.get? b = some o → h2.get? b = some o := fun b o z => sb2.extBut b o (Nat.ne_of_lt (Heap.lt_size z)) (Heap.get?_push_of_some _ z)
  have J := lam_start2 (tk := s1.toks + ([] : List (Str × Value)).length) (E := E) (c' := c') (f := f) I L.names e0 rm.hd un ns2 kp
  exact wpAny_mono ((hbody (rm.deeper _) gd).run [] _ _ HZ Q J q) (fun v s' ⟨y, H', J', r, z⟩ => ⟨y, H', J'.os, J'.bare, J'.base, J'.hok, r, z⟩) fun _ _ z => z
/-- what stands at the name a is the lambda at f: a() -/
def Act (X : Cx) (N : List Str) (x : Str) (st : Stmt) (g : Addr) (cd : Value) (s : Shared) (H : Hp) (a : Str) (f c' : Addr) (tl : XK → Hp → VK → Prop) : Prop :=
  ∀ (W : WX) (pn : List (Addr × Obj)) (xe : Value → Shared → Prop) (p1 p2 : Pos), Takes ((inDef X N x st g cd s H).tr pn xe) W →
    PE ((inDef X N x st g cd s H).tr pn xe) (.Call (.Name a p1) [] [] p2) (fun σZ HZ Q => σZ[0]? = some (some (.ref f)) ∧ HZ c' = some (CodeO c' (X.env.qual ++ "<lambda>")) ∧ ∃ E : XK, (∀ cls d H', E cls d H' → W cls d σZ H') ∧ tl E HZ Q)
theorem act_of {t : XK → TE} (I : Inv X pins σ H s) (L : LamT X.env.scope scope params body) (fo : s.heap.get? f = some (PySem.W.kla_obj "<lambda>" (X.env.qual ++ "<lambda>") params body scope (cloFrom X.env.cells scope.names []) pm c' ctv)) (fn : H f = none) (ff : f ∉ frs X.stack)
    (rm : Room (k + 2) X.A) (gd : X.A.guards = some [])
    (hbody : ∀ (A : Around) (outer : List Env) (s : Shared) (H : Hp) (E : XK), Room k (A.deeper (lamEnv X scope s.heap.objs.size f c')) → (A.deeper (lamEnv X scope s.heap.objs.size f c')).guards = some [] → PE (lamCx X A outer s H E scope f c') body (t E))
    (hN : N[0]? = some a) (hv : Vis (defScope st) a) (hd : (a == ("__debug__" : Str)) = false) (hcd : (a == ("__classdict__" : Str)) = false) : Act X N x st g cd s H a f c' (fun E HZ Q => t E σ HZ Q) := by
  intro W pn xe p1 p2 tk
  refine ⟨fun pinsZ sZ σZ HZ Q IZ ⟨at0, hco, E, hW, hq⟩ => ?_⟩
  refine wpAny_Call_Name_kw (thn ((pe_var (pos := p1) (i := 0) hN hv hd hcd).run pinsZ sZ σZ HZ (fun v H1 => v = .ref f ∧ H1 = HZ) IZ ⟨.ref f, at0, rfl, rfl⟩) fun u s1 ⟨v, H1, I1, r1, ev, eH⟩ => ?_)
  subst ev
  subst eH
  obtain rfl : u = Value.ref f := r1
  have fo1 := I1.base.keep f _ fo fn ff (fun z => nomatch (show f ∈ ([] : List Addr) from z))
  have co1 := (I1.hok c' _ hco).1
  have rc : codeAny (model X.prog X.w) (X.A.deeper (envOfC x (defScope st) s.heap.objs.size g cd)) (.call (.ref f) ⟨[], []⟩) (CR (L2.CX X.prog X.w) (envOfC x (defScope st) s.heap.objs.size g cd :: X.stack) X.prog X.w H1 s1 Q E) s1 :=
    lam_run (X := X) (k := k) (Q := Q) (E := E) (tb := t E) (params := params) (body := body) (scope := scope) (pm := pm) (ctv := ctv) (c' := c') (f := f) I L I1.env0 I1.base I1.nolimit (rm.deeper _) gd fo1 co1 (fun r2 g2 => hbody _ _ _ _ _ r2 g2) hq
  refine PySem.W.callWith_F0 ⟨_, _, _, _, fo1⟩ (wpAny_call (codeAny_mono rc fun out s' ho => ?_))
  cases out with
  | error e => exact tk e s' (XE.of_call I1 (fun cls d H' h => hW cls d H' h) ho)
  | ok fl =>
    cases fl with
    | ret u => exact I1.after ho
    | next => exact False.elim ho
    | brk => exact False.elim ho
    | cont => exact False.elim ho
/-- the def that gets it: what it makes of the lambda's reading -/
def Gives (X : Cx) (x : Str) (st : Stmt) (a : Str) (TT : (XK → Hp → VK → Prop) → Hp → VK → Prop) : Prop :=
  ∃ N : List Str, FnScope N [a] (defScope st) ∧ N[0]? = some a ∧ Vis (defScope st) a ∧ ∀ (g : Addr) (cd : Value) (f c' : Addr) (s : Shared) (H : Hp) (Q : VK) (tl : XK → Hp → VK → Prop), Act X N x st g cd s H a f c' tl → H c' = some (CodeO c' (X.env.qual ++ "<lambda>")) → TT tl H Q →
    ∃ t, PSs (inDef X N x st g cd s H).nox (defBody st) t ∧ t { nx := fun _ H' => Q .non H', rt := Q } (L2.start N [.ref f]) H
/-- x(lambda: body) -/
theorem pe_lam {T : List (Addr × Str)} {TT : (XK → Hp → VK → Prop) → Hp → VK → Prop} {t : XK → TE} {c P : Addr} {p lpos pos : Pos} (D : DefAt X.K X.mg x st [a]) (G : Gives X x st a TT) (hg : Gl X x) (TB : TabB X.base X.mg c P) (hcode : X.env.code = .ref c)
    (hmT : (P, X.env.qual ++ "<lambda>") ∈ T) (hu : ∀ p ∈ T, p.1 = P → p.2 = X.env.qual ++ "<lambda>") (rm : Room (k + 2) X.A) (gd : X.A.guards = some []) (L : LamT X.env.scope scope params body) (hdef : defaultsOf params X.env = ([], []))
    (hbody : ∀ (A : Around) (outer : List Env) (s : Shared) (H : Hp) (E : XK) (f c' : Addr), Room k (A.deeper (lamEnv X scope s.heap.objs.size f c')) → (A.deeper (lamEnv X scope s.heap.objs.size f c')).guards = some [] → PE (lamCx X A outer s H E scope f c') body (t E))
    (hdb : (x == ("__debug__" : Str)) = false := by decide) (hd : (a == ("__debug__" : Str)) = false := by decide) (hcd : (a == ("__classdict__" : Str)) = false := by decide) : PE X (.Call (.Name x p) [.Lambda params body scope lpos] [] pos) (tLam T TT t) := by
  obtain ⟨g, fd, hm, F, b⟩ := D.ex
  obtain ⟨oc, od, kV, doc, pm, an, cdv, ct, osl, rfl, lk, hcg⟩ := F.ex
  obtain ⟨N, sc, hN, hv, G⟩ := G
  refine ⟨fun pins s σ H Q I ⟨hT, h⟩ => wpAny_Call_Name_kw (ld_glob I hg hm (PySem.W.callWith_K (h₀ := X.base) I.ok.mod.kin F.kp ?_ (by rfl) (by rfl)) hdb)⟩
  show wpAny _ _ (spliced ((false, eval (.Lambda params body scope lpos) X.env) :: backTo pos (starEach [] X.env))) _ _ s
  refine spliced_cons (lam_make2 I TB hcode hmT hu hT hdef (L.names.has I.ok) fun f c' pm' ctv H1 s' I1 eN T1 fo fn ff hco => spliced_nil ⟨I1.kIn, ?_⟩)
  refine wpAny_call (codeAny_mono (run_ofS (k := k + 1) (N := N) (ps := [a]) (us := [.ref f]) (vs := [.ref f]) (E := C8.E0) (CX := C8.CX0) (Q := Q) (H := H1) (outer := X.stack) (args := ⟨[.ref f], []⟩) lk hcg sc rm I1.env0 (b s' [.ref f] I1.kIn rfl) (.cons rfl .nil) rfl fun rm2 => ?_) fun out s2 ho => ?_)
  · obtain ⟨tt, h1, h2⟩ := G g cdv f c' s' H1 Q (fun E HZ Q => t E σ HZ Q) (act_of (k := k) I1 L fo fn ff rm gd (fun A outer s H E r2 g2 => hbody A outer s H E f c' r2 g2) hN hv hd hcd) hco (h H1 eN T1)
    exact ⟨tt, h1.nox, h2⟩
  · cases out with
    | error e => exact (show False from ho).elim
    | ok fl =>
      cases fl with
      | ret u => exact I1.after ho
      | next => exact False.elim ho
      | brk => exact False.elim ho
      | cont => exact False.elim ho
end
end KG

set_option Elab.async false
set_option linter.all false
set_option maxRecDepth 100000
set_option maxHeartbeats 1000000
/-! KT: the end of a law over promises where nothing is shown, the tables of code objects of its defs known. -/
namespace KG
open PySem PySem.Spec PySem.Calls PyProof.Rows L2 LamX

/-- the abstract heap at the start: the tables, the script -/
def H0 (K : PySem.W.Frag) (T : List Addr) (a : Addr) (vs : List Value) (ns : List Int) : Hp := fun b =>
  if b ∈ T then some (.tbl #[]) else if b = a ∧ K.lookup a = none then some (.frz { cls := .type "list", data := .seq vs.toArray } (.lst (ns.map V.int))) else none
section
variable {K : PySem.W.Frag} {T : List Addr} {a : Addr} {vs : List Value} {ns : List Int}
theorem H0_tab {b : Addr} (h : b ∈ T) : H0 K T a vs ns b = some (.tbl #[]) := if_pos h
theorem H0_a (h : a ∉ T) (hk : K.lookup a = none) : H0 K T a vs ns a = some (.frz { cls := .type "list", data := .seq vs.toArray } (.lst (ns.map V.int))) := (if_neg h).trans (if_pos ⟨rfl, hk⟩)
theorem H0_some {b : Addr} {u : HO} (h : H0 K T a vs ns b = some u) : (b ∈ T ∧ u = .tbl #[]) ∨ (b ∉ T ∧ b = a ∧ K.lookup a = none ∧ u = .frz { cls := .type "list", data := .seq vs.toArray } (.lst (ns.map V.int))) := by
  by_cases h1 : b ∈ T
  · rw [H0_tab h1] at h
    exact .inl ⟨h1, (Option.some.inj h).symm⟩
  · by_cases h2 : b = a ∧ K.lookup a = none
    · have e := ((if_neg h1).trans (if_pos h2)).symm.trans h
      exact .inr ⟨h1, h2.1, h2.2, (Option.some.inj e).symm⟩
    · have e := ((if_neg h1).trans (if_neg h2)).symm.trans h
      cases e
end

theorem law_gdT {P : Program} {w : World} {K : PySem.W.Frag} {mg mb : Str → Option Value} {CX : CXT} {k : Nat} {fa a : Addr} {cs : List (Addr × Addr)} {fd : FuncData} {x : Str} {sp : Sp} {s1 : Shared} {vs : List Value} {ns : List Int}
    (kin : K.In s1.heap) (nsm : s1.heap.Ns mainGlobals mg) (nsb : s1.heap.Ns builtinsNs mb) (mbb : ∀ x : Str, x ≠ "__name__" → mb x = bootBuiltins x) (lim : s1.heap.NoLimit) (nog : s1.gens = #[])
    (tab : ∀ p ∈ cs, s1.heap.get? p.2 = some { cls := .none, data := .fields #[] }) (notK : ∀ p ∈ cs, K.lookup p.2 = none) (code : ∀ p ∈ cs, PySem.W.CodeHd s1.heap p.1 p.2)
    (bmain : ∃ (bm : Addr) (ob : Obj), mg "__builtins__" = some (.ref bm) ∧ bm ≠ builtinsNs ∧ s1.heap.get? bm = some ob ∧ ob.cls = .type "module" ∧ ob.dict = some builtinsNs ∧ ob.data = .plain)
    (atA : s1.heap.get? a = some { cls := .type "list", data := .seq vs.toArray }) (isn : IntsAre vs ns) (small : ns.length ≤ sizeLine) (rm : Room k callerA)
    (F : ∀ base : Heap, K.In base → base.Ns mainGlobals mg → (∀ p ∈ cs, TabB base mg p.1 p.2) → Gd P w K mg base CX k fa fd [x] sp) (bt : ∀ (s : Shared) (u : Value), BindsTo s fd ⟨[u], []⟩ [(x, u)])
    (start_ : ∀ H : Hp, (∀ p ∈ cs, H p.2 = some (.tbl #[])) → SqL K H a (ns.map V.int) → sp [.ref a] H (fun v _ => v = .bl true) fun _ _ _ => False)
    (quiet : ∀ H e s', CX [] H s1 (fun _ _ _ => False) e s' → False) :
    codeAny (model P w) callerA (.call (.ref fa) ⟨[.ref a], []⟩) (fun r s' => r = .ok (.ret (.bool true)) ∧ OldK s1.heap s'.heap ∧ s'.os = s1.os ∧ AllBare s'.gens) s1 := by
  have rv := vals_ints isn
  have inT : ∀ p ∈ cs, p.2 ∈ cs.map (·.2) := fun p hp => List.mem_map_of_mem hp
  have ofT : ∀ b ∈ cs.map (·.2), ∃ p ∈ cs, p.2 = b := fun b hb => List.mem_map.mp hb
  have emp : ∀ b ∈ cs.map (·.2), s1.heap.get? b = some { cls := .none, data := .fields #[] } := fun b hb => by
    obtain ⟨p, hp, e⟩ := ofT b hb
    exact e ▸ tab p hp
  have aT : a ∉ cs.map (·.2) := fun z => by
    have y := emp a z
    rw [atA] at y
    exact nomatch congrArg Obj.data (Option.some.inj y)
  -- what is no table and no list is not tracked
  have plain : ∀ {b : Addr} {o : Obj}, s1.heap.get? b = some o → o.data ≠ .fields #[] → (∀ its n, o.data ≠ .seq its n) → H0 K (cs.map (·.2)) a vs ns b = none := fun {b o} e n1 n2 => by
    cases z : H0 K (cs.map (·.2)) a vs ns b with
    | none => rfl
    | some u =>
      rcases H0_some z with ⟨y, _⟩ | ⟨_, y, _⟩
      · rw [emp b y] at e
        cases e
        exact (n1 rfl).elim
      · rw [y, atA] at e
        cases e
        exact (n2 _ _ rfl).elim
  have ofK : ∀ {b : Addr} {o : Obj}, K.lookup b = some o → H0 K (cs.map (·.2)) a vs ns b = none := fun {b o} e => by
    cases z : H0 K (cs.map (·.2)) a vs ns b with
    | none => rfl
    | some u =>
      rcases H0_some z with ⟨y, _⟩ | ⟨_, y, n, _⟩
      · obtain ⟨p, hp, ep⟩ := ofT b y
        rw [← ep, notK p hp] at e
        cases e
      · rw [y, n] at e
        cases e
  have hok : HOk P w (H0 K (cs.map (·.2)) a vs ns) s1.heap := fun b u z => by
    rcases H0_some z with ⟨y, rfl⟩ | ⟨_, rfl, _, rfl⟩
    · exact emp b y
    · exact ⟨atA, by rw [List.length_map]; exact small, vs, _, rv, atA⟩
  have sq : SqL K (H0 K (cs.map (·.2)) a vs ns) a (ns.map V.int) := by
    cases hk : K.lookup a with
    | some o =>
      have e := kin a o hk
      rw [atA] at e
      cases e
      exact .inr ⟨_, vs.toArray, _, hk, rfl, rfl, rfl, by rw [List.size_toArray, isn.length]; exact small, by simpa using rv⟩
    | none => exact .inl (.inr ⟨_, H0_a aT hk⟩)
  have keepN : ∀ {b : Addr} {m : Str → Option Value}, s1.heap.Ns b m → (hidT s1.heap (H0 K (cs.map (·.2)) a vs ns)).Ns b m := fun {b m} ⟨o, es, ep, e, d, r⟩ =>
    ⟨o, es, ep, hidT_get e (plain e (by rw [d]; exact nofun) (by rw [d]; exact nofun)), d, r⟩
  have kinH : K.In (hidT s1.heap (H0 K (cs.map (·.2)) a vs ns)) := fun b o e => hidT_get (kin b o e) (ofK e)
  have mod : Mod K mg (hidT s1.heap (H0 K (cs.map (·.2)) a vs ns)) := ⟨kinH, keepN nsm, ⟨mb, keepN nsb, mbb⟩, lim.elim fun mc h => ⟨mc, keepN h.1, h.2⟩⟩
  have tb : ∀ p ∈ cs, TabB (hidT s1.heap (H0 K (cs.map (·.2)) a vs ns)) mg p.1 p.2 := fun p hp => by
    obtain ⟨o, us, file, tf, flags, tg, inF, text, tt, e1, r1, r2, r3, rr⟩ := code p hp
    obtain ⟨bm, ob, b1, b2, b3, b4, b5, b6⟩ := bmain
    have other : ∀ {q : Addr}, q ≠ bm → True := fun _ => trivial
    refine ⟨⟨o, us, file, tf, flags, tg, inF, text, tt, hidT_get e1 (plain e1 (fun z => ?_) (by rw [r2]; exact nofun)), r1, r2, r3, rr⟩, ⟨bm, ob, b1, b2, fun z => ?_, fun z => ?_, hidT_get b3 (plain b3 (by rw [b6]; exact nofun) (by rw [b6]; exact nofun)), b4, b5, b6⟩, fun z => ?_⟩
    · rw [r2] at z
      cases z
      simp at r3
    · obtain ⟨oM, _, _, eM, dM, _⟩ := nsm
      rw [z, eM] at b3
      cases b3
      rw [b6] at dM
      cases dM
    · rw [z, tab p hp] at b3
      cases b3
      cases b6
    · obtain ⟨oM, _, _, eM, dM, _⟩ := nsm
      rw [z, tab p hp] at eM
      cases eM
      cases dM
  have e0 : Env0 P w K mg (hidT s1.heap (H0 K (cs.map (·.2)) a vs ns)) callerA [] s1 (H0 K (cs.map (·.2)) a vs ns) := ⟨rfl, mod, fun b o e => of_hidT e, Nat.le_of_eq (hidT_size _ _), trivial, fun b hb => absurd (show b ∈ ([] : List Addr) from hb) List.not_mem_nil, hok, .of_eq nog⟩
  refine codeAny_mono ((F _ kinH (keepN nsm) tb).go callerA [] s1 _ ⟨[.ref a], []⟩ [.ref a] [.ref a] _ _ rm rfl e0 (bt s1 (.ref a)) (.cons rfl .nil) (start_ _ (fun p hp => H0_tab (inT p hp)) sq)) fun r s' h => ?_
  match r, h with
  | .error e, h => exact (quiet _ e s' h).elim
  | .ok (.ret u), h =>
    obtain ⟨v, H', os, bare, un, hok', r', q⟩ := h
    have q' : v = .bl true := q
    subst q'
    obtain rfl : u = Value.bool true := r'
    have same : ∀ b o, b ∉ cs.map (·.2) → s1.heap.get? b = some o → s'.heap.get? b = some o := fun b o nb e => by
      cases z : H0 K (cs.map (·.2)) a vs ns b with
      | none => exact un.keep b o e z (by intro y; cases y) (by simp)
      | some t =>
        rcases H0_some z with ⟨y, _⟩ | ⟨_, _, _, rfl⟩
        · exact (nb y).elim
        · obtain ⟨g1, _⟩ := hok b _ z
          obtain ⟨g2, _⟩ := hok' b _ (un.frzs b _ _ z)
          rw [e] at g1
          cases g1
          exact g2
    have grown : ∀ p ∈ cs, ∃ more : Array Value, s'.heap.get? p.2 = some { cls := .none, data := .fields more } := fun p hp => by
      obtain ⟨more, z⟩ := un.tbls p.2 #[] (H0_tab (inT p hp))
      exact ⟨_, hok' p.2 _ z⟩
    refine ⟨rfl, ⟨fun b o e => ?_, fun b o e => ?_⟩, os, bare⟩
    · by_cases hb : b ∈ cs.map (·.2)
      · obtain ⟨p, hp, ep⟩ := ofT b hb
        obtain ⟨more, hm⟩ := grown p hp
        subst ep
        rw [tab p hp] at e
        cases e
        exact .inr (.inl ⟨((code p hp).tab (tab p hp)).isCodeTable, rfl, #[], more, rfl, by rw [Array.empty_append]; exact hm⟩)
      · exact .inl (same b o hb e)
    · by_cases hb : b ∈ cs.map (·.2)
      · obtain ⟨p, hp, ep⟩ := ofT b hb
        obtain ⟨more, hm⟩ := grown p hp
        exact ⟨_, ep ▸ hm⟩
      · exact ⟨o, same b o hb e⟩

/-- what the start tells of the tables of the top's defs -/
abbrev Tabs0 (q : Program) (mg : Str → Option Value) (h : Heap) : Prop :=
  ∀ d ∈ recsOf q, ∃ (a : Addr) (o : Obj) (fd : FuncData) (c P : Addr), mg d.name = some (.ref a) ∧ h.get? a = some o ∧ o.data = .func fd ∧ fd.code = .ref c ∧ h.IsCode c P #[] ∧ h.TableAt c P #[]
/-- .. of one def that the written part knows: its code object c, the table at P -/
theorem tab0 {q : Program} {K : PySem.W.Frag} {mg : Str → Option Value} {h : Heap} {x : Str} {f c P : Addr} {oc : Value} {od : Option Addr} {fd : FuncData} {sl : Array (Option Value)} (X : K.In h) (t : Tabs0 q mg h) (hr : ((recsOf q).any fun d => d.name == x) = true) (hm : mg x = some (.ref f))
    (lk : K.lookup f = some ⟨oc, od, .func fd, sl⟩) (hc : fd.code = .ref c) (hP : PySem.W.codeHdIn K c P = true) : h.get? P = some { cls := .none, data := .fields #[] } ∧ PySem.W.CodeHd h c P := by
  obtain ⟨d, hd, e⟩ := List.any_eq_true.mp hr
  obtain ⟨a', o', fd', c', P', h1, h2, h3, h4, h5, h6⟩ := t d hd
  rw [beq_iff_eq.mp e, hm] at h1
  cases h1
  rw [X _ _ lk] at h2
  cases h2
  cases h3
  rw [hc] at h4
  cases h4
  have hd1 := PySem.W.codeHd_of_K X hP
  obtain ⟨o, us, file, tf, flags, tg, inF, text, tt, e1, r1, r2, r3, rr⟩ := id hd1
  obtain ⟨⟨oc2, vc, g1, g2, g3, g4⟩, g5⟩ := h6
  rw [e1] at g1
  cases g1
  rw [r2] at g3
  cases g3
  rw [r3] at g4
  cases g4
  exact ⟨g5, hd1⟩
theorem walk_gdT {l : PySem.W.OpenLaw} {n k : Nat} {q : Program} {loose : List Str} {XP : (Str → Option Value) → Heap → Prop} {YP : World → Heap → Prop} {d : DefRec} {K : Params → PySem.W.Frag} {CX : CXT} {x : Str}
    (most : l.most = some n) (n2 : n ≤ sizeLine) (nod : d.params.defaults = []) (rm : Room k callerA)
    (hY : ∀ (w : World) (h : Heap), YP w h → (K w.params).In h)
    (F : ∀ (w : World) (mg : Str → Option Value) (fa : Addr) (h : Heap), YP w h → (K w.params).In h → h.Ns mainGlobals mg → mg d.name = some (.ref fa) → Tabs0 q mg h →
      ∃ (fd : FuncData) (cs : List (Addr × Addr)) (sp : Sp), (∀ p ∈ cs, h.get? p.2 = some { cls := .none, data := .fields #[] }) ∧ (∀ p ∈ cs, (K w.params).lookup p.2 = none) ∧ (∀ p ∈ cs, PySem.W.CodeHd h p.1 p.2) ∧ (∀ (s : Shared) (u : Value), BindsTo s fd ⟨[u], []⟩ [(x, u)]) ∧
        (∀ (H : Hp) (a : Addr) (ns : List Int), ns.length ≤ n → (∀ z ∈ ns, Builtin.Int.intBits z ≤ 1048576) → (∀ p ∈ cs, H p.2 = some (.tbl #[])) → SqL (K w.params) H a (ns.map V.int) → sp [.ref a] H (fun v _ => v = .bl true) fun _ _ _ => False) ∧
        ∀ base : Heap, (K w.params).In base → base.Ns mainGlobals mg → (∀ p ∈ cs, TabB base mg p.1 p.2) → Gd l.prog w (K w.params) mg base CX k fa fd [x] sp)
    (quiet : ∀ (H : Hp) (s : Shared) (e : Value) (s' : Shared), CX [] H s (fun _ _ _ => False) e s' → False) :
    PySem.W.WalkO q loose XP YP l.row.toRowW d [] (fun f vs => PySem.call f vs) := by
  refine Att.attach_callB most nod fun w s0 s1 mg mb fa o pm cd doc a vs ns G Y ho hd hcd hmg hobj hints hlen hbits hg => ?_
  have kin := hY w _ Y
  obtain ⟨fd, cs, sp, t1, t2, t3, hb, st, hF⟩ := F w mg fa _ Y kin G.T.g hmg G.T.tab
  exact law_gdT kin G.T.g G.T.b G.T.builtins G.T.nolimit hg t1 t2 t3 G.T.bmain hobj hints (Nat.le_trans hlen n2) rm hF hb (fun H h1 h2 => st H a ns hlen hbits h1 h2) fun H e s' => quiet H s1 e s'
end KG

set_option Elab.async false
set_option linter.all false
set_option maxRecDepth 100000
set_option maxHeartbeats 1000000
/-! KA: data of any kind, {} among them: repr, in a tuple of the written part. -/
namespace KG
open PySem PySem.Spec PySem.Calls PyProof.Rows L2

/-- x is the data d -/
def Da (H : Hp) (x : V) (d : PyData) : Prop := ∀ (X : Cx) (pins : List (Addr × Obj)) (σ : L2.St) (s : Shared) (u : Value), Inv X pins σ H s → RelV x u → ∃ as, Reads s.heap u d as
/-- .. none of its lists and dicts the table of modules -/
def Dn (H : Hp) (x : V) (d : PyData) : Prop := ∀ (X : Cx) (pins : List (Addr × Obj)) (σ : L2.St) (s : Shared) (u : Value), Inv X pins σ H s → RelV x u → ∃ as, Reads s.heap u d as ∧ sysModules ∉ as
inductive DaAll (H : Hp) : List V → List PyData → Prop
  | nil : DaAll H [] []
  | cons {x : V} {xs : List V} {d : PyData} {ds : List PyData} : Da H x d → DaAll H xs ds → DaAll H (x :: xs) (d :: ds)
section
variable {H : Hp} {x : V} {d : PyData}
theorem Dn.da (h : Dn H x d) : Da H x d := fun X pins σ s u I r => by
  obtain ⟨as, a, _⟩ := h X pins σ s u I r
  exact ⟨as, a⟩
theorem Dn.str (z : Str) : Dn H (.str z) (.str z) := fun X pins σ s u I r => by obtain ⟨t, rfl⟩ := r; exact ⟨[], .str z t, List.not_mem_nil⟩
theorem Da.non : Da H .non .none := fun X pins σ s u I r => by cases r; exact ⟨[], .none⟩
theorem Da.bl (b : Bool) : Da H (.bl b) (.bool b) := fun X pins σ s u I r => by cases r; exact ⟨[], .bool b⟩
theorem Da.int (i : Int) : Da H (.int i) (.int i) := fun X pins σ s u I r => by obtain ⟨t, rfl⟩ := r; exact ⟨[], .int i t⟩
theorem Da.str (z : Str) : Da H (.str z) (.str z) := (Dn.str z).da
theorem DaAll.reads : ∀ {xs : List V} {ds : List PyData} (_ : DaAll H xs ds) {X : Cx} {pins : List (Addr × Obj)} {σ : L2.St} {s : Shared} {us : List Value} (_ : Inv X pins σ H s) (_ : Vals xs us), ∃ as, ReadsAll s.heap us ds as
  | _, _, .nil, _, _, _, _, _, _, .nil => ⟨[], .nil⟩
  | _, _, .cons a t, X, pins, σ, s, _, I, .cons r rt => by
    obtain ⟨as, h1⟩ := a X pins σ s _ I r
    obtain ⟨bs, h3⟩ := t.reads I rt
    exact ⟨as ++ bs, .cons h1 h3⟩
theorem Da.lst {a : Addr} {xs : List V} {ds : List PyData} (h : H a = some (.lst xs)) (t : DaAll H xs ds) : Da H (.ref a) (.list ds) := fun X pins σ s u I r => by
  obtain rfl : u = Value.ref a := r
  obtain ⟨_, its, n, rv, ho⟩ := I.hok a _ h
  obtain ⟨as, h1⟩ := t.reads I rv
  exact ⟨a :: as, .list ho rfl rfl (by simpa using h1)⟩
theorem Da.tup {a : Addr} {xs : List V} {ds : List PyData} (h : H a = some (.tup xs)) (t : DaAll H xs ds) : Da H (.ref a) (.tuple ds) := fun X pins σ s u I r => by
  obtain rfl : u = Value.ref a := r
  obtain ⟨_, its, rv, ⟨o, ho, hc, n, hd⟩⟩ := I.hok a _ h
  obtain ⟨as, h1⟩ := t.reads I rv
  exact ⟨as, .tuple ho hc hd (by simpa using h1)⟩
/-- a list of two, beside the table of modules -/
theorem Dn.two {a : Addr} {z : Str} (h : H a = some (.lst [.str z, x])) (na : a ≠ sysModules) (t : Dn H x d) : Dn H (.ref a) (.list [.str z, d]) := fun X pins σ s u I r => by
  obtain rfl : u = Value.ref a := r
  obtain ⟨_, its, n, rv, ho⟩ := I.hok a _ h
  cases rv with
  | cons r1 rt =>
    obtain ⟨k, rfl⟩ := r1
    cases rt with
    | cons r2 rt =>
      cases rt
      obtain ⟨as, h1, h2⟩ := t X pins σ s _ I r2
      refine ⟨a :: ([] ++ (as ++ [])), .list ho rfl rfl (.cons (.str z k) (.cons h1 .nil)), fun hm => ?_⟩
      rcases List.mem_cons.mp hm with e | e
      · exact na e.symm
      · simp at e
        exact h2 e
theorem Dn.dict0 {a : Addr} (h : H a = some (.dK [])) : Dn H (.ref a) (.dict []) := fun X pins σ s u I r => by
  obtain rfl : u = Value.ref a := r
  obtain ⟨_, ns, vs, kv, ob, es, ep, ho, hx, hd, _, hp, _⟩ := I.hok a _ h
  cases kv
  have e : es.toList = [] := by
    cases z : es.toList with
    | nil => rfl
    | cons y ys =>
      rw [z] at hp
      cases hp
  refine ⟨[a], .dict (kvs := []) (as := []) (bs := []) ho hx.1 hd (by rw [e]; exact .nil) (by rw [e]; exact .nil), fun hb => ?_⟩
  rw [← List.mem_singleton.mp hb] at ns
  simp at ns
theorem Da.dict0 {a : Addr} (h : H a = some (.dK [])) : Da H (.ref a) (.dict []) := (Dn.dict0 h).da
end

section
variable {X : Cx}
/-- repr(x), x any data -/
def rReprA : List V → Hp → VK → Prop := fun xs H Q => ∃ x d, xs = [x] ∧ Da H x d ∧ (d.hasDict = true → Dn H x d) ∧ d.showable = true ∧ d.depth ≤ 40 ∧ d.shown.length ≤ sizeLine ∧ Q (.str d.shown) H
theorem call_reprA {k : Nat} (rm : Room k X.A) (gd : X.A.guards = some []) : CallR X (.builtin "repr") rReprA := by
  intro pins s σ H xs us Q I r h
  obtain ⟨x, d, rfl, hd, hn, sh, dp, sz, q⟩ := h
  obtain ⟨u, rfl, r1⟩ := vals1 r
  have rdn : ∃ as, Reads s.heap u d as ∧ (d.hasDict = true → sysModules ∉ as) := by
    cases z : d.hasDict with
    | false =>
      obtain ⟨as, rd⟩ := hd X pins σ s u I r1
      exact ⟨as, rd, nofun⟩
    | true =>
      obtain ⟨as, rd, n⟩ := hn z X pins σ s u I r1
      exact ⟨as, rd, fun _ => n⟩
  obtain ⟨as, rd, ha⟩ := rdn
  have room := rm.units
  have fin : ∀ (s' : Shared) (tk : Tok), Inv X pins σ H s' → EP X pins σ Q (.str d.shown tk) s' := fun s' tk J => ⟨.str d.shown, H, J, ⟨tk, rfl⟩, q⟩
  have intsz : ∀ i : Int, d = .int i → i.natAbs.log2 < 1920 := fun i e => by
    subst e
    simpa [PyData.showable] using sh
  have big : ∀ {a : Addr}, u = .ref a → wpAny (model X.prog X.w) X.A (call (.builtin "repr") [u]) (EP X pins σ Q) X.xe s := fun {a} e => by
    subst e
    exact repr_of_reads' rd sh ha gd (by omega) (fun _ _ z => z) (fun h' u tk keep => fin _ _ (I.kept (t' := tk) keep)) sz
  cases rd with
  | none =>
    rw [PyData.shown_none] at q
    exact PySem.P.repr_of_none ⟨.str _, H, I.tok _, ⟨_, rfl⟩, q⟩
  | bool b =>
    rw [PyData.shown_bool] at q
    exact PySem.P.repr_of_bool ⟨.str _, H, I.tok _, ⟨_, rfl⟩, by cases b <;> exact q⟩
  | int i t =>
    rw [PyData.shown_int] at q
    exact PySem.P.repr_of_int (intsz i rfl) ⟨.str _, H, I.tok _, ⟨_, rfl⟩, q⟩
  | str z t =>
    rw [PyData.shown_str] at q sz
    exact PySem.P.repr_of_str ⟨.str _, H, I.tok _, ⟨_, rfl⟩, q⟩ sz
  | list h1 h2 h3 h4 => exact big rfl
  | tuple h1 h2 h3 h4 => exact big rfl
  | dict h1 h2 h3 h4 h5 => exact big rfl
/-- x not in t, t a tuple of texts of the written part, x any data -/
def rNotInA (K : PySem.W.Frag) : R2 := fun x y H Q => ∃ (p : Addr) (d : PyData) (zs : List Str), y = .ref p ∧ Da H x d ∧ d.canLay0 = true ∧ d.depth ≤ 40 ∧ KTup K p (zs.map V.str) ∧ zs.all PyData.strOk = true ∧ Q (.bl (!(zs.any fun z => PyData.eqv (.str z) d))) H
theorem strs_reads {h : Heap} : ∀ {zs : List Str} {us : List Value}, Vals (zs.map V.str) us → ReadsAll h us (zs.map PyData.str) []
  | [], _, .nil => .nil
  | z :: zs, _, .cons r t => by
    obtain ⟨k, rfl⟩ := r
    exact .cons (as := []) (bs := []) (.str z k) (strs_reads t)
theorem strs_lay : ∀ {zs : List Str}, zs.all PyData.strOk = true → PyData.canLayAll0 (zs.map PyData.str) = true
  | [], _ => by simp [PyData.canLayAll0]
  | z :: zs, h => by
    rw [List.all_cons, Bool.and_eq_true] at h
    simp [PyData.canLayAll0, PyData.canLay0, strs_lay h.2, h.1]
theorem op_notInA {k : Nat} (rm : Room k X.A) : OpR X (compareOp .NotIn) (rNotInA X.K) := by
  intro pins s σ H x y v u Q I rx ry h
  obtain ⟨p, d, zs, rfl, hd, lay, dp, ⟨o, its, n, lk, hc, hdt, _, rv⟩, zok, q⟩ := h
  obtain rfl : u = Value.ref p := ry
  obtain ⟨as, rd⟩ := hd X pins σ s v I rx
  have room := rm.units
  refine SeqAt.notIn_tuple_reads (.tuple (I.kIn _ _ lk) hc hdt (strs_reads rv)) rd (strs_lay zok) lay (Nat.lt_of_le_of_lt (Nat.add_le_add_left (Nat.min_le_right _ _) _) (by omega)) ⟨.bl _, H, I, rfl, ?_⟩
  rw [List.any_map]
  exact q
end
end KG

set_option Elab.async false
set_option linter.all false
set_option maxRecDepth 100000
set_option maxHeartbeats 1000000
/-! KV: list.count of flat items; what a caught error of a known class answers. -/
namespace KG
open PySem PySem.Spec PySem.Calls PyProof.Rows L2
section
variable {X : Cx}
def rCountF (K : PySem.W.Frag) : V → List V → Hp → VK → Prop := fun x xs H Q => ∃ (p : Addr) (ys : List V) (y : V), x = .ref p ∧ xs = [y] ∧ SqL K H p ys ∧ flatV y = true ∧ ys.all flatV = true ∧ Q (.int (ys.countP fun z => eqV z y : Nat)) H
theorem count_eqU {x : V} : ∀ {xs : List V} {us : List Value}, Vals xs us → xs.all flatV = true → us.countP (eqU x) = xs.countP fun y => eqV y x
  | _, _, .nil, _ => rfl
  | y :: xs, u :: us, .cons r t, f => by
    rw [List.all_cons, Bool.and_eq_true] at f
    rw [List.countP_cons, List.countP_cons, eqU_of r f.1, count_eqU t f.2]
theorem mt_countF : MtR X "list.count" (rCountF X.K) := by
  intro pins s σ H x xs v us Q I rx rxs h
  obtain ⟨p, ys, y, rfl, rfl, hs, fy, fys, q⟩ := h
  cases rx
  obtain ⟨u, rfl, ru⟩ := vals1 rxs
  obtain ⟨its, rv, ⟨⟨cls, dd, data, sl⟩, n, ho, hc, hdn, hd⟩, hlen⟩ := I.list hs
  simp only at hc hd
  subst hc hd
  refine call_meets PySem.F.slot_list_count ⟨_, ho, rfl⟩ PySem.F.entry_list_count (PySem.F.args_list_count_2 _ _)
    (SeqAt.list_countAt p its.toArray n dd sl u (eqU y)) ⟨ho, fun u' hu' => mem_eqAt ru fy rv fys u' (by simpa using hu'), ?_⟩
  refine ⟨.int (ys.countP fun z => eqV z y : Nat), H, I.tok _, ⟨s.toks, ?_⟩, q⟩
  show Value.int ((its.toArray.toList.countP (eqU y) : Nat) : Int) s.toks = _
  rw [show its.toArray.toList = its from rfl, count_eqU rv fys]
end
/-- a list display, its place beside the table of modules -/
def NewB (Q : VK) (xs : List V) (H : Hp) : Prop := xs.length ≤ sizeLine ∧ ∀ p, H p = none → p ≠ sysModules → Q (.ref p) (upd H p (.lst xs))
def tLstB (t : TA) : TE := fun σ H Q => t σ H fun xs H1 => NewB Q xs H1
theorem pe_lstB {X : Cx} {es : List Expr} {t : TA} {pos : Pos} (h : PA X es t) : PE X (.List es pos) (tLstB t) := by
  refine ⟨fun pins s σ H Q I hq => wpAny_List_spliced (thn (h.run pos pins s σ H _ I hq) fun us s1 ⟨xs, H1, I1, r, z, q⟩ => ⟨by rw [← r.length]; exact z, ?_⟩)⟩
  exact ⟨.ref s1.heap.objs.size, _, I1.laid (t' := s1.toks) (o := .lst xs) (fun b u e => Heap.get?_push_of_some _ e) (Nat.le_refl _) ⟨z, us, 0, r, Heap.get?_push_size _ rfl⟩, rfl, q _ (I1.hok.fresh (Nat.le_refl _)) (Nat.ne_of_gt I1.big)⟩
theorem w_lstB {σ : L2.St} {H : Hp} {Q : VK} {t : TA} (q : t σ H fun xs H1 => NewB Q xs H1) : tLstB t σ H Q := q
theorem newB {xs : List V} {H : Hp} {Q : VK} (l : xs.length ≤ sizeLine) (q : ∀ (p : Addr) (H' : Hp), H p = none → p ≠ sysModules → H' p = some (.lst xs) → Same H H' → Q (.ref p) H') : NewB Q xs H :=
  ⟨l, fun p np ns => q p _ np ns upd_same fun b u e => by rw [upd_ne (ne_of_none e np)]; exact e⟩
/-! ### steps -/
section
variable {σ : L2.St} {H : Hp} {Q : VK} {K : PySem.W.Frag}
/-- isinstance of a known error, its class and dict in the heap H -/
theorem w_isE {a D dd : Addr} {fs : List (Str × V)} {c : V} {cv : Value} {b : Bool} (ha : H a = some (ErrO (.ref D) (some dd) a)) (hd : H dd = some (.xd fs)) (C : ExcC K D) (hc : ∀ u, RelV c u → u = cv) (e : PySem.W.kitOne K (.ref D) cv = some b) (q : Q (.bl b) H) : rIsErr K [.ref a, c] H Q :=
  ⟨a, D, dd, fs, c, cv, b, rfl, ha, hd, C, hc, e, q⟩
theorem w_cat {l b : Addr} {xs zs ys : List V} (h1 : H l = some (.lst xs)) (h2 : H b = some (.lst zs)) (e : xs ++ zs = ys) (z : ys.length ≤ sizeLine) (q : ∀ (p : Addr) (H' : Hp), H p = none → H' p = some (.lst ys) → Same H H' → Q (.ref p) H') : rCat (.ref l) (.ref b) H Q :=
  ⟨l, b, xs, zs, rfl, rfl, h1, h2, by rw [← List.length_append, e]; exact z, fun p np => q p _ np (by rw [e]; exact upd_same) fun b u e => by rw [upd_ne (ne_of_none e np)]; exact e⟩
theorem w_bm {T : String} {r : V → List V → Hp → VK → Prop} {to : TE} {t : TA} (q : to σ H fun x H1 => tyV K T x H1 ∧ t σ H1 fun xs H2 => r x xs H2 Q) : tBM K T r to t σ H Q := q
theorem ty_list {p : Addr} {xs : List V} (h : H p = some (.lst xs)) : tyV K "list" (.ref p) H := .inl ⟨rfl, xs, SqL.of h⟩
theorem w_app {p : Addr} {xs ys : List V} {y : V} (h : H p = some (.lst xs)) (z : xs.length < sizeLine) (e : xs ++ [y] = ys) (q : ∀ H' : Hp, H' p = some (.lst ys) → (∀ b, b ≠ p → H' b = H b) → Q .non H') : rAppend (.ref p) [y] H Q :=
  ⟨p, xs, y, rfl, rfl, h, z, q _ (by rw [e]; exact upd_same) fun b nb => upd_ne nb⟩
theorem w_count {p : Addr} {ys : List V} {y : V} {n : Nat} (h : H p = some (.lst ys)) (f : flatV y = true) (fs : ys.all flatV = true) (e : (ys.countP fun z => eqV z y) = n) (q : Q (.int (n : Nat)) H) : rCountF K (.ref p) [y] H Q :=
  ⟨p, ys, y, rfl, rfl, SqL.of h, f, fs, by rw [e]; exact q⟩
theorem w_errf {te : TE} {f : Str} (q : te σ H fun x H1 => ∃ (a C dd : Addr) (fs : List (Str × V)) (v : V), x = .ref a ∧ H1 a = some (ErrO (.ref C) (some dd) a) ∧ H1 dd = some (.xd fs) ∧ XfC K C ∧ PySem.W.findIn K (.ref C) f = some none ∧ fs.lookup f = some v ∧ Q v H1) : tErrF K te f σ H Q := q
end
end KG

set_option Elab.async false
set_option linter.all false
set_option maxRecDepth 100000
set_option maxHeartbeats 1000000
/-! KW: methods that may raise; own errors by their def. -/
namespace KG
open PySem PySem.Spec PySem.Calls PyProof.Rows L2
section
variable {P : Program} {w : World} {K : PySem.W.Frag} {mg : Str → Option Value} {base : Heap} {k : Nat} {x m qual : Str} {st : Stmt} {ps N : List Str} {sp : Sp} {C f : Addr}
theorem MetAt.gdx (D : MetAt K C m qual st ps f) (sc : FnScope N ps (defScope st)) (len : ∀ vs H Q E, sp vs H Q E → vs.length = ps.length)
    (inner : ∀ (cdv : Value) (A : Around) (outer : List Env) (s : Shared) (H : Hp) (vs : List V) (Q : VK) (E : XK),
      Room k (A.deeper (envOfC qual (defScope st) s.heap.objs.size f cdv)) → (A.deeper (envOfC qual (defScope st) s.heap.objs.size f cdv)).guards = some [] → sp vs H Q E →
      ∃ t, PSs (cxOf (L2.CX P w) P w K mg base N qual (defScope st) f cdv A outer s H E) (defBody st) t ∧ t { nx := fun _ H' => Q .non H', rt := Q } (start N vs) H) :
    ∃ fd, Meth K C m f ∧ Fun K m qual st f fd ∧ Binds K fd ps [] ∧ Gd P w K mg base (L2.CX P w) (k + 1) f fd ps sp := by
  obtain ⟨fd, a, F, b⟩ := D.ex
  exact ⟨fd, a, F, b, gdX F sc len inner⟩
end
/-- what a def that may raise lets out -/
theorem takes_cx {P : Program} {w : World} {K : PySem.W.Frag} {mg : Str → Option Value} {base : Heap} {N : List Str} {qual : Str} {sc : Scope} {f : Addr} {cd : Value} {A : Around} {outer : List Env} {s : Shared} {H : Hp} {E : XK} :
    Takes (cxOf (L2.CX P w) P w K mg base N qual sc f cd A outer s H E) (fun cls d _ H => E cls d H) := takes_of rfl rfl rfl rfl
theorem own_cx {P : Program} {w : World} {K : PySem.W.Frag} {mg : Str → Option Value} {base : Heap} {N : List Str} {qual : Str} {sc : Scope} {f : Addr} {cd : Value} {A : Around} {outer : List Env} {s : Shared} {H : Hp} {E : XK} :
    PassesOwn (model P w) (cxOf (L2.CX P w) P w K mg base N qual sc f cd A outer s H E).A (cxOf (L2.CX P w) P w K mg base N qual sc f cd A outer s H E).env (cxOf (L2.CX P w) P w K mg base N qual sc f cd A outer s H E).xe := passes_of rfl
/-- .. the lambda's frame -/
theorem takes_lam {X : Cx} {A : Around} {outer : List Env} {s : Shared} {H : Hp} {E : XK} {scope : Scope} {f c' : Addr} : Takes (LamX.lamCx X A outer s H E scope f c') (fun cls d _ H => E cls d H) := takes_of rfl rfl rfl rfl
theorem pass_lam {X : Cx} {A : Around} {outer : List Env} {s : Shared} {H : Hp} {E : XK} {scope : Scope} {f c' : Addr} : Passes (L2.CX X.prog X.w) (LamX.lamCx X A outer s H E scope f c') E := passes_call takes_lam fun _ _ _ _ h => h
theorem pass_cx {P : Program} {w : World} {K : PySem.W.Frag} {mg : Str → Option Value} {base : Heap} {N : List Str} {qual : Str} {sc : Scope} {f : Addr} {cd : Value} {A : Around} {outer : List Env} {s : Shared} {H : Hp} {E : XK} :
    Passes (L2.CX P w) (cxOf (L2.CX P w) P w K mg base N qual sc f cd A outer s H E) E := passes_call takes_cx fun _ _ _ _ h => h
/-- the def st is an error's __init__ of two lines -/
def ErrX (st : Stmt) (qual pv fld : Str) : Prop := ∃ (msg : Str) (j : Nat) (p0 p1 p2 p3 p4 p5 p6 p7 p8 p9 : Pos), defBody st = errBody msg pv fld j p0 p1 p2 p3 p4 p5 p6 p7 p8 p9 ∧ ErrT qual pv fld msg (defArgs st) (defScope st) j p0 p1 p2 p3 p4 p5 p6 p7 p8 p9
theorem pmk_errX {X : Cx} {k : Nat} {C fI : Addr} {x qual pv fld : Str} {st : Stmt} {p pos : Pos} {e : Expr} {es : List Expr} {ta : TA} (T : ErrC X.prog X.K C fI qual pv fld (defArgs st) (defBody st) (defScope st)) (TT : ErrX st qual pv fld)
    (hr : Room (k + 1) X.A) (hg : Gl X x) (hm : X.mg x = some (.ref C)) (ha : PA X (e :: es) ta)
    (hdb : (x == ("__debug__" : Str)) = false := by decide) (hs : starEach (e :: es) X.env = (false, eval e X.env) :: starEach es X.env := by rfl) (hpl : (backTo pos (starEach es X.env)).any (·.1) = false := by rfl) :
    PMk X (.Call (.Name x p) (e :: es) [] pos) (tErr C fld ta) := by
  obtain ⟨msg, j, p0, p1, p2, p3, p4, p5, p6, p7, p8, p9, hb, TT⟩ := TT
  rw [hb] at T
  exact pmk_err T TT hr hg hm ha hdb hs hpl
end KG

set_option Elab.async false
set_option linter.all false
set_option maxRecDepth 100000
set_option maxHeartbeats 1000000
/-! KZ: a text beside a dict; not in a tuple of texts. -/
namespace KG
open PySem PySem.Spec PySem.Calls PyProof.Rows L2 SeqAt
theorem sub_str_dict : isSubtype (.type "str") (.type "dict") = pure false := by rw [isSubtype_type]; kernel_rfl
theorem sub_dict_str : isSubtype (.type "dict") (.type "str") = pure false := by rw [isSubtype_type]; kernel_rfl
theorem dict_declines (l : Addr) (es : Array DictEntry) (n : Nat) (dd : Option Addr) (sl : Array (Option Value)) (b : Str) (u : Tok) :
    Meets (Builtin.«dict.__eq__» ⟨[.ref l, .str b u], []⟩) (fun _ R s => s.heap.get? l = some { cls := .type "dict", dict := dd, data := .dict es n, slots := sl } ∧ R (.ok (.ret .notImplemented)) s) :=
  .of_wp fun prog w A R s h => by
    obtain ⟨hp, g, d, tk, os⟩ := s
    obtain ⟨hl, h⟩ := h
    have f1 := sub_str_dict
    wp_walk using wpAny_loadPart' hl
    exact ⟨_, rfl, h⟩
theorem str_declines (b : Str) (u : Tok) (l : Addr) (es : Array DictEntry) (n : Nat) (dd : Option Addr) (sl : Array (Option Value)) :
    Meets (Builtin.«str.__eq__» ⟨[.str b u, .ref l], []⟩) (fun _ R s => s.heap.get? l = some { cls := .type "dict", dict := dd, data := .dict es n, slots := sl } ∧ R (.ok (.ret .notImplemented)) s) :=
  .of_wp fun prog w A R s h => by
    obtain ⟨hp, g, d, tk, os⟩ := s
    obtain ⟨hl, h⟩ := h
    have f1 := sub_dict_str
    wp_walk using wpAny_loadPart' hl
    exact ⟨_, rfl, h⟩
theorem eqAt_str_dict {A : Around} {s : Shared} {l : Addr} {es : Array DictEntry} {n : Nat} {dd : Option Addr} {sl : Array (Option Value)} (b : Str) (u : Tok) (ho : s.heap.get? l = some { cls := .type "dict", dict := dd, data := .dict es n, slots := sl }) (hu : A.units < cLine) : EqAt A s (.str b u) (.ref l) false := fun prog w E Q h => by
  unfold eqBool
  refine wpAny_holding ?_
  refine wpAny_ite_split (fun hab => absurd (eq_of_beq hab) nofun) (fun _ => ?_)
  refine wpAny_bind (rc_eq_decline_or (k := false) (typeIs_str s b u) ⟨_, ho, rfl⟩ (by decide) sub_dict_str F.slot_str_eq F.slot_dict_eq_refl
    (fun _ hq => call_meets F.slot_str_eq (typeIs_str s b u) F.entry_str_eq (F.args_str_eq_2 _ _) (str_declines b u l es n dd sl) ⟨ho, hq⟩)
    (fun _ hq => call_meets F.slot_dict_eq_refl ⟨_, ho, rfl⟩ F.entry_dict_eq (F.args_dict_eq_2 _ _) (dict_declines l es n dd sl b u) ⟨ho, hq⟩)
    (fun _ hq => wpAny_of_eq (rfl : isSame (.str b u) (.ref l) = pure false) hq) (.inr hu) (wpAny_truthy_bool h))
section
variable {X : Cx}
/-- x not in t, t a tuple of texts of the written part, x any data, {} too -/
def rNotInB (K : PySem.W.Frag) : R2 := fun x y H Q => ∃ (p : Addr) (d : PyData) (zs : List Str), y = .ref p ∧ Da H x d ∧ (d.canLay0 = true ∨ d = .dict []) ∧ d.depth ≤ 40 ∧ KTup K p (zs.map V.str) ∧ zs.all PyData.strOk = true ∧ Q (.bl (!(zs.any fun z => PyData.eqv (.str z) d))) H
theorem strs_mem : ∀ {zs : List Str} {us : List Value}, Vals (zs.map V.str) us → ∀ u ∈ us, ∃ z t, u = Value.str z t
  | [], _, .nil => fun u h => nomatch h
  | z :: zs, _, .cons r t => fun u h => by
    rcases List.mem_cons.mp h with e | e
    · obtain ⟨k, rfl⟩ := r
      exact ⟨z, k, e⟩
    · exact strs_mem t u e
theorem op_notInB {k : Nat} (rm : Room k X.A) : OpR X (compareOp .NotIn) (rNotInB X.K) := by
  intro pins s σ H x y v u Q I rx ry h
  obtain ⟨p, d, zs, rfl, hd, lay, dp, kt, zok, q⟩ := h
  rcases lay with lay | rfl
  · exact op_notInA rm pins s σ H x _ v u Q I rx ry ⟨p, d, zs, rfl, hd, lay, dp, kt, zok, q⟩
  · obtain ⟨o, its, n, lk, hc, hdt, _, rv⟩ := kt
    obtain rfl : u = Value.ref p := ry
    obtain ⟨as, rd⟩ := hd X pins σ s v I rx
    have room := rm.units
    cases rd with
    | @dict a oo es nn kvs as bs h1 h2 h3 h4 h5 =>
      obtain ⟨oc, od, odt, osl⟩ := oo
      dsimp only at h2 h3
      subst h2 h3
      refine SeqAt.notIn_tupleAt (fun _ => false) ⟨_, I.kIn _ _ lk, hc, _, hdt⟩ (fun y hy => ?_) ⟨.bl _, H, I, rfl, ?_⟩
      · obtain ⟨z, t, rfl⟩ := strs_mem rv y (by simpa using hy)
        exact eqAt_str_dict z t h1 (by show X.A.units + 1 < cLine; omega)
      · have e1 : (its.any fun _ => false) = false := by
          rw [← Array.any_toList]
          exact List.any_eq_false.mpr fun _ _ => Bool.false_ne_true
        have e2 : (zs.any fun z => PyData.eqv (.str z) (.dict [])) = false := List.any_eq_false.mpr fun z _ => by simp [PyData.eqv]
        rw [e2] at q
        rw [e1]
        exact q
end
end KG

set_option Elab.async false
set_option linter.all false
set_option maxRecDepth 100000
set_option maxHeartbeats 4000000
namespace Law
open PySem PySem.Spec PySem.Calls PyProof.Rows L2 KG
local macro_rules | `(tactic| walk_at "1") => `(tactic| first
  | (with_reducible refine w_var rfl ?_) | (with_reducible refine w_c ?_) | (with_reducible refine w_seq ?_) | (with_reducible refine w_asg ?_) | (with_reducible refine w_gname ?_) | (with_reducible refine w_op ?_) | (with_reducible refine w_un ?_)
  | (with_reducible refine w_add ?_) | (with_reducible refine w_sub ?_) | ((with_reducible refine' w_mod ?mo ?_); (case mo => first | assumption | decide | omega)) | (with_reducible refine w_and ?_) | (with_reducible refine w_or ?_) | (with_reducible refine w_xor ?_)
  | (with_reducible refine w_gt ?_) | (with_reducible refine w_lt ?_) | (with_reducible refine w_ge ?_) | (with_reducible refine w_le ?_) | ((with_reducible refine' w_eq ?sc ?_); (case sc => rfl)) | ((with_reducible refine' w_ne ?sc ?_); (case sc => rfl))
  | (with_reducible refine w_ret ?_) | (with_reducible refine w_next ?_) | (with_reducible refine w_ifs ?_) | (with_reducible refine w_ifx ?_) | (with_reducible refine w_test ?_) | (with_reducible refine w_tB ?_) | (with_reducible refine w_bl ?_)
  | ((with_reducible refine' w_ixL ?ixh ?ixa ?_); (case ixh => first | exact SqL.of (by assumption)); (case ixa => first | rfl | skip)) | ((with_reducible refine' w_ixT ?ixh ?ixa ?_); (case ixh => first | exact SqT.of (by assumption)); (case ixa => first | rfl | skip))
  | ((with_reducible refine' w_fld ?_)) | ((with_reducible refine' fld ?fh ?fc ?fn ?fl ?_); (case fh => assumption); (case fc => assumption); (case fn => assumption); (case fl => rfl)) | (with_reducible refine w_sfld ?_)
  | (with_reducible refine Or.inl ⟨_, rfl, ?_⟩) | (with_reducible refine w_gsub ?_) | (with_reducible refine w_andV ?_) | (with_reducible refine w_orV ?_)
  | (with_reducible refine w_nil ?_) | (with_reducible refine w_cons ?_) | (with_reducible refine w_tup ?_) | (with_reducible refine w_lst ?_) | (with_reducible refine w_and2 ?_) | (with_reducible refine w_or2 ?_) | (with_reducible refine w_not ?_) | (with_reducible refine w_cb ?_) | (with_reducible refine w_call ?_) | (with_reducible refine w_par ?_) | (with_reducible refine w_pnil ?_) | (with_reducible refine w_pcons ?_) | (with_reducible refine w_dput ?_) | (with_reducible refine w_dget ?_) | (with_reducible refine w_for ?_) | (with_reducible refine w_itup ?_) | (with_reducible refine w_ilist ?_) | (with_reducible refine w_irng ?_) | (with_reducible refine w_meth ?_) | (with_reducible refine w_make ?_) | (with_reducible refine w_makeK ?_) | (with_reducible refine w_methK ?_) | ((with_reducible refine' mth ?mh ?ml ?_); (case mh => assumption); (case ml => rfl)) | (with_reducible refine w_drop ?_))
local macro_rules | `(tactic| walk_at "go") => `(tactic| ((repeat (walk_at "1")); try dsimp only))
def top (i : Nat) : Stmt := PySem.Challenge.pw_keptbits_k08_kinds_refused_and_compared.main.body.getD i (.Pass ⟨0, 0, 0, 0⟩)
abbrev s_Kind___init__ : Stmt := inClass (top 10) 3
theorem sc_Kind___init__ : FnScope ["self", "reading", "writing", "device", "value", "words"] ["self", "reading", "writing", "device"] (defScope s_Kind___init__) := ⟨rfl, rfl, rfl, by decide +kernel, rfl, by decide +kernel, by decide +kernel⟩
theorem bd_Kind___init__ : BindOk "__init__" "Kind.__init__" s_Kind___init__ ["self", "reading", "writing", "device"] := fun _ _ _ _ _ _ us hl => match us, hl with | [_, _, _, _], _ => rfl
abbrev s_Kind___eq__ : Stmt := inClass (top 10) 8
theorem sc_Kind___eq__ : FnScope ["self", "other"] ["self", "other"] (defScope s_Kind___eq__) := ⟨rfl, rfl, rfl, by decide +kernel, rfl, by decide +kernel, by decide +kernel⟩
theorem bd_Kind___eq__ : BindOk "__eq__" "Kind.__eq__" s_Kind___eq__ ["self", "other"] := fun _ _ _ _ _ _ us hl => match us, hl with | [_, _], _ => rfl
abbrev s_Kind___str__ : Stmt := inClass (top 10) 9
theorem sc_Kind___str__ : FnScope ["self"] ["self"] (defScope s_Kind___str__) := ⟨rfl, rfl, rfl, by decide +kernel, rfl, by decide +kernel, by decide +kernel⟩
theorem bd_Kind___str__ : BindOk "__str__" "Kind.__str__" s_Kind___str__ ["self"] := fun _ _ _ _ _ _ us hl => match us, hl with | [_], _ => rfl
abbrev s__law_pen : Stmt := top 12
theorem sc__law_pen : FnScope ["_law_script"] ["_law_script"] (defScope s__law_pen) := ⟨rfl, rfl, rfl, by decide +kernel, rfl, by decide +kernel, by decide +kernel⟩
theorem bd__law_pen : BindOk "_law_pen" "_law_pen" s__law_pen ["_law_script"] := fun _ _ _ _ _ _ us hl => match us, hl with | [_], _ => rfl
abbrev s__law_draw : Stmt := top 13
theorem sc__law_draw : FnScope ["_law_pen_here", "_law_many", "_law_digit", "_law_at", "_law_cell", "_law_great", "_law_mixed"] ["_law_pen_here", "_law_many"] (defScope s__law_draw) := ⟨rfl, rfl, rfl, by decide +kernel, rfl, by decide +kernel, by decide +kernel⟩
theorem bd__law_draw : BindOk "_law_draw" "_law_draw" s__law_draw ["_law_pen_here", "_law_many"] := fun _ _ _ _ _ _ us hl => match us, hl with | [_, _], _ => rfl
abbrev s__law_heard : Stmt := top 14
theorem sc__law_heard : FnScope ["_law_ask", "_law_caught", "error", "_law_marks"] ["_law_ask"] (defScope s__law_heard) := ⟨rfl, rfl, rfl, by decide +kernel, rfl, by decide +kernel, by decide +kernel⟩
theorem bd__law_heard : BindOk "_law_heard" "_law_heard" s__law_heard ["_law_ask"] := fun _ _ _ _ _ _ us hl => match us, hl with | [_], _ => rfl
abbrev s__law_words : Stmt := top 18
theorem sc__law_words : FnScope ["_law_pen_here", "_law_writings", "_law_reading"] ["_law_pen_here"] (defScope s__law_words) := ⟨rfl, rfl, rfl, by decide +kernel, rfl, by decide +kernel, by decide +kernel⟩
theorem bd__law_words : BindOk "_law_words" "_law_words" s__law_words ["_law_pen_here"] := fun _ _ _ _ _ _ us hl => match us, hl with | [_], _ => rfl
abbrev s__law_odd : Stmt := top 19
theorem sc__law_odd : FnScope ["_law_pen_here", "_law_some"] ["_law_pen_here"] (defScope s__law_odd) := ⟨rfl, rfl, rfl, by decide +kernel, rfl, by decide +kernel, by decide +kernel⟩
theorem bd__law_odd : BindOk "_law_odd" "_law_odd" s__law_odd ["_law_pen_here"] := fun _ _ _ _ _ _ us hl => match us, hl with | [_], _ => rfl
abbrev s__law_due : Stmt := top 20
theorem sc__law_due : FnScope ["_law_words_here", "_law_lists", "_law_thing", "_law_known"] ["_law_words_here"] (defScope s__law_due) := ⟨rfl, rfl, rfl, by decide +kernel, rfl, by decide +kernel, by decide +kernel⟩
theorem bd__law_due : BindOk "_law_due" "_law_due" s__law_due ["_law_words_here"] := fun _ _ _ _ _ _ us hl => match us, hl with | [_], _ => rfl
abbrev s_law : Stmt := top 21
theorem sc_law : FnScope ["_law_script", "_law_pen_here", "_law_kinds", "_law_turn", "_law_words_here", "_law_some", "_law_again", "_law_one", "_law_kind", "_law_other", "_law_more"] ["_law_script"] (defScope s_law) := ⟨rfl, rfl, rfl, by decide +kernel, rfl, by decide +kernel, by decide +kernel⟩
theorem bd_law : BindOk "law" "law" s_law ["_law_script"] := fun _ _ _ _ _ _ us hl => match us, hl with | [_], _ => rfl
abbrev s_InvalidKind___init__ : Stmt := inClass (top 7) 0
/-! ### kinds -/
def RD : List Str := ["keep", "take"]
def WR : List Str := ["store", "clear1", "clear0", "set1", "flip1", "once", "none"]
def DV : List Str := ["still", "raise", "end", "drift"]
def kf (r w d : Str) (st : Addr) : List (Str × V) := [("reading", .str r), ("writing", .str w), ("device", .str d), ("states", .ref st)]
def KindAt (C : Addr) (H : Hp) (k : Addr) (r w d : Str) : Prop := ∃ dx st, H k = some (.ins C dx (kf r w d st))
structure K8 (K : PySem.W.Frag) (mg : Str → Option Value) (C : Addr) (mc : Value) : Prop where
  g_Kind : mg "Kind" = some (.ref C)
  g_isinstance : mg "isinstance" = none
  cl : Cls K C
  nR : NoAttr K C "reading"
  nW : NoAttr K C "writing"
  nD : NoAttr K C "device"
  nS : NoAttr K C "states"
  rd : ClX.CRead K C mc
  cR : ∃ a, ClX.CVal K C mc "READINGS" (.ref a) (.ref a) ∧ KTup K a (RD.map V.str)
  cW : ∃ a, ClX.CVal K C mc "WRITINGS" (.ref a) (.ref a) ∧ KTup K a (WR.map V.str)
  cD : ∃ a, ClX.CVal K C mc "DEVICES" (.ref a) (.ref a) ∧ KTup K a (DV.map V.str)
  isC : PySem.W.findIn K (.ref C) "__class__" = some (some (.builtin "object.__class__"))
  isG : PySem.W.specialIn K (.builtin "object.__class__") "__get__" = some (some (.builtin "getset_descriptor.__get__"))
  isT : PySem.W.takesIn K (.builtin "object.__class__") = some true
  isM : PySem.W.mroIn K C (.type "object") = some true
/-- no word of the list -/
def bad (l : List Str) (d : PyData) : Bool := !(l.any fun z => PyData.eqv (.str z) d)
/-- data that may be asked for, whatever comes -/
def Asked (H : Hp) (x : V) (d : PyData) : Prop := (∀ H', Same H H' → Da H' x d) ∧ (d.canLay0 = true ∨ d = .dict []) ∧ d.depth ≤ 40
def spIK (C cK : Addr) : Sp := fun vs H Q E => ∃ (x dx : Addr) (a b c : V) (da db dc : PyData), vs = [.ref x, a, b, c] ∧ H x = some (.ins C dx []) ∧ Asked H a da ∧ Asked H b db ∧ Asked H c dc ∧
  (bad RD da = true → ∀ (dd : Addr) (H' : Hp), Same H H' → H' dd = some (.xd [("value", a)]) → E (.ref cK) (some dd) H') ∧
  (bad RD da = false → bad WR db = true → ∀ (dd : Addr) (H' : Hp), Same H H' → H' dd = some (.xd [("value", b)]) → E (.ref cK) (some dd) H') ∧
  (bad RD da = false → bad WR db = false → bad DV dc = true → ∀ (dd : Addr) (H' : Hp), Same H H' → H' dd = some (.xd [("value", c)]) → E (.ref cK) (some dd) H') ∧
  (bad RD da = false → bad WR db = false → bad DV dc = false → ∃ r w d, a = .str r ∧ b = .str w ∧ c = .str d ∧ ∀ H', KindAt C H' x r w d → (∀ b o, H b = some o → b ≠ x → H' b = some o) → Q .non H')
section
variable {P : Program} {w : World} {K : PySem.W.Frag} {mg : Str → Option Value} {base : Heap} {C cK fK : Addr} {mc : Value}
theorem ok_IK {f : Addr} (D : MetAt K C "__init__" "Kind.__init__" s_Kind___init__ ["self", "reading", "writing", "device"] f) (T : K8 K mg C mc) (gK : mg "InvalidKind" = some (.ref cK))
    (TE : ErrC P K cK fK "InvalidKind.__init__" "value" "value" (defArgs s_InvalidKind___init__) (defBody s_InvalidKind___init__) (defScope s_InvalidKind___init__)) (TX : ErrX s_InvalidKind___init__ "InvalidKind.__init__" "value" "value") :
    ∃ fd, Meth K C "__init__" f ∧ Fun K "__init__" "Kind.__init__" s_Kind___init__ f fd ∧ Binds K fd ["self", "reading", "writing", "device"] [] ∧ Gd P w K mg base (L2.CX P w) 2 f fd ["self", "reading", "writing", "device"] (spIK C cK) := by
  refine D.gdx (k := 1) sc_Kind___init__ (fun vs H Q E h => ?_) (fun cdv A outer s H vs Q E rm gd h => ?_)
  · obtain ⟨x, dx, a, b, c, da, db, dc, rfl, _⟩ := h
    rfl
  · obtain ⟨x, dx, a, b, c, da, db, dc, rfl, hx, ha, hb, hc, q1, q2, q3, q⟩ := h
    obtain ⟨aR, cR, kR⟩ := T.cR
    obtain ⟨bW, cW, kW⟩ := T.cW
    obtain ⟨aD, cD, kD⟩ := T.cD
    have cl := T.cl
    have nR := T.nR
    have nW := T.nW
    have nD := T.nD
    have nS := T.nS
    have tk := takes_cx (P := P) (w := w) (K := K) (mg := mg) (base := base) (N := ["self", "reading", "writing", "device", "value", "words"]) (qual := "Kind.__init__") (sc := defScope s_Kind___init__) (f := f) (cd := cdv) (A := A) (outer := outer) (s := s) (H := H) (E := E)
    refine ⟨_, (pss_cons (ps_for own_cx rfl (pi_tup (pe_tup (pa_cons (pe_tup (pa_cons (pv 1) (pa_cons (ClX.pe_cval (pe_glob (v := .ref C) rfl T.g_Kind rfl)) pa_nil))) (pa_cons (pe_tup (pa_cons (pv 2) (pa_cons (ClX.pe_cval (pe_glob (v := .ref C) rfl T.g_Kind rfl)) pa_nil))) (pa_cons (pe_tup (pa_cons (pv 3) (pa_cons (ClX.pe_cval (pe_glob (v := .ref C) rfl T.g_Kind rfl)) pa_nil))) pa_nil))))) (pg_tup rfl (pgs_cons (pg_name (i := 4) sc_Kind___init__.nd rfl (Or.inl rfl)) (pgs_cons (pg_name (i := 5) sc_Kind___init__.nd rfl (Or.inl rfl)) pgs_nil)))
      (pss_one (ps_if (pt_cmpR (op_notInB rm) (pv 4) (pv 5) rfl)
        (pss_one (ps_raise rfl tk (pmk_errX TE TX (k := 0) rm rfl gK (pa_cons (pv 4) pa_nil))))
        pss_nil)))
    (pss_cons (ps_fld (pv 0) (pv 1) rfl)
    (pss_cons (ps_fld (pv 0) (pv 2) rfl)
    (pss_cons (ps_fld (pv 0) (pv 3) rfl)
    (pss_one (ps_fld (pv 0) (pe_ifExp (pt_cmpR op_eq (pv 2) pe_str (nomark _)) (pe_tup (pa_cons pe_int (pa_cons pe_int (pa_cons pe_int (pa_cons pe_int pa_nil))))) (pe_tup (pa_cons pe_int (pa_cons pe_int pa_nil)))) rfl)))))), ?_⟩
    walk_at "go"
    refine ⟨C, mc, .ref aR, .ref aR, rfl, T.rd, cR, ?_⟩
    walk_at "go"
    refine new (by show 2 ≤ sizeLine; decide) fun t1 H1 n1 h1 s1 => ?_
    walk_at "go"
    refine ⟨C, mc, .ref bW, .ref bW, rfl, T.rd, cW, ?_⟩
    walk_at "go"
    refine new (by show 2 ≤ sizeLine; decide) fun t2 H2 n2 h2 s2 => ?_
    walk_at "go"
    refine ⟨C, mc, .ref aD, .ref aD, rfl, T.rd, cD, ?_⟩
    walk_at "go"
    refine new (by show 2 ≤ sizeLine; decide) fun t3 H3 n3 h3 s3 => ?_
    walk_at "go"
    refine new (by show 3 ≤ sizeLine; decide) fun t4 H4 n4 h4 s4 => ?_
    have sA := s1.trans (s2.trans (s3.trans s4))
    have err : ∀ {v : V} {σ : L2.St} {H5 : Hp}, Same H4 H5 → σ[4]? = some (some v) → (∀ (dd : Addr) (H' : Hp), Same H H' → H' dd = some (.xd [("value", v)]) → E (.ref cK) (some dd) H') →
        tErr cK "value" (tCons (tVar 4) tNil) σ H5 (fun cls d H' => E cls d H') := fun {v σ H5} z hv q => by
      refine w_cons (w_var hv (w_nil ⟨v, rfl, fun dd H6 nd hd keep => q dd H6 (fun b o e => ?_) hd⟩))
      have e5 := z _ _ (sA _ _ e)
      exact (keep b (ne_of_none e5 nd)).trans e5
    refine over_t (SqT.of h4) (for_tup (xs := [.ref t1, .ref t2, .ref t3]) (fun i σ H' => (∃ v4 v5, σ = [some (.ref x), some a, some b, some c, v4, v5]) ∧ Same H4 H' ∧ (1 ≤ i → bad RD da = false) ∧ (2 ≤ i → bad WR db = false) ∧ (3 ≤ i → bad DV dc = false)) ⟨⟨none, none, rfl⟩, Same.refl _, nofun, nofun, nofun⟩ (fun i σ H' _ ⟨_, z, _⟩ => SqT.of (z _ _ h4)) ?_ ?_)
    · rintro i y σ H' hi ⟨⟨v4, v5, rfl⟩, z, b1, b2, b3⟩
      match i, hi with
      | 0, hi =>
        cases hi
        refine ⟨t1, [a, .ref aR], rfl, SqT.of (z _ _ (s4 _ _ (s3 _ _ (s2 _ _ h1)))), rfl, _, _, rfl, _, _, rfl, rfl, ?_⟩
        walk_at "go"
        refine ⟨aR, da, RD, rfl, ha.1 _ (sA.trans z), ha.2.1, ha.2.2, kR, by decide +kernel, ?_⟩
        walk_at "go"
        refine ite2 (fun h => ?_) (fun h => ?_)
        · exact err z rfl (q1 h)
        · exact ⟨⟨_, _, rfl⟩, z, fun _ => Bool.eq_false_iff.mpr h, fun y => absurd y (by decide), fun y => absurd y (by decide)⟩
      | 1, hi =>
        cases hi
        refine ⟨t2, [b, .ref bW], rfl, SqT.of (z _ _ (s4 _ _ (s3 _ _ h2))), rfl, _, _, rfl, _, _, rfl, rfl, ?_⟩
        walk_at "go"
        refine ⟨bW, db, WR, rfl, hb.1 _ (sA.trans z), hb.2.1, hb.2.2, kW, by decide +kernel, ?_⟩
        walk_at "go"
        refine ite2 (fun h => ?_) (fun h => ?_)
        · exact err z rfl (q2 (b1 (by decide)) h)
        · exact ⟨⟨_, _, rfl⟩, z, fun _ => b1 (by decide), fun _ => Bool.eq_false_iff.mpr h, fun y => absurd y (by decide)⟩
      | 2, hi =>
        cases hi
        refine ⟨t3, [c, .ref aD], rfl, SqT.of (z _ _ (s4 _ _ h3)), rfl, _, _, rfl, _, _, rfl, rfl, ?_⟩
        walk_at "go"
        refine ⟨aD, dc, DV, rfl, hc.1 _ (sA.trans z), hc.2.1, hc.2.2, kD, by decide +kernel, ?_⟩
        walk_at "go"
        refine ite2 (fun h => ?_) (fun h => ?_)
        · exact err z rfl (q3 (b1 (by decide)) (b2 (by decide)) h)
        · exact ⟨⟨_, _, rfl⟩, z, fun _ => b1 (by decide), fun _ => b2 (by decide), fun _ => Bool.eq_false_iff.mpr h⟩
    · rintro σ H5 ⟨⟨v4, v5, rfl⟩, z, b1, b2, b3⟩
      obtain ⟨r, wr, d, rfl, rfl, rfl, q9⟩ := q (b1 (show 1 ≤ 3 by decide)) (b2 (show 2 ≤ 3 by decide)) (b3 (show 3 ≤ 3 by decide))
      have s5 := sA.trans z
      have hx5 := s5 _ _ hx
      walk_at "go"
      refine sfld hx5 cl nR (by show 0 < 1000; decide) rfl fun H6 h6 e6 => ?_
      walk_at "go"
      refine sfld h6 cl nW (by show 1 < 1000; decide) rfl fun H7 h7 e7 => ?_
      walk_at "go"
      refine sfld h7 cl nD (by show 2 < 1000; decide) rfl fun H8 h8 e8 => ?_
      walk_at "go"
      have fin : ∀ (st : Addr) (H9 H10 : Hp), Same H8 H9 → H10 x = some (.ins C dx (kf r wr d st)) → (∀ b, b ≠ x → H10 b = H9 b) → Q .non H10 := fun st H9 H10 s9 hx10 e10 => by
        refine q9 H10 ⟨dx, st, hx10⟩ fun b o e nb => ?_
        rw [e10 b nb]
        refine s9 _ _ ?_
        rw [e8 b nb, e7 b nb, e6 b nb]
        exact s5 _ _ e
      refine ite2 (fun h => ?_) (fun h => ?_)
      · walk_at "go"
        refine new (by show 4 ≤ sizeLine; decide) fun st H9 n9 h9 s9 => ?_
        walk_at "go"
        refine sfld (s9 _ _ h8) cl nS (by show 3 < 1000; decide) rfl fun H10 h10 e10 => ?_
        exact fin st H9 H10 s9 h10 e10
      · walk_at "go"
        refine new (by show 2 ≤ sizeLine; decide) fun st H9 n9 h9 s9 => ?_
        walk_at "go"
        refine sfld (s9 _ _ h8) cl nS (by show 3 < 1000; decide) rfl fun H10 h10 e10 => ?_
        exact fin st H9 H10 s9 h10 e10
end
end Law

set_option Elab.async false
set_option linter.all false
set_option maxRecDepth 100000
set_option maxHeartbeats 4000000
namespace Law
open PySem PySem.Spec PySem.Calls PyProof.Rows L2 KG LamX
local macro_rules | `(tactic| walk_at "1") => `(tactic| first
  | (with_reducible refine w_var rfl ?_) | (with_reducible refine w_c ?_) | (with_reducible refine w_seq ?_) | (with_reducible refine w_asg ?_) | (with_reducible refine w_gname ?_) | (with_reducible refine w_op ?_) | (with_reducible refine w_un ?_)
  | (with_reducible refine w_add ?_) | (with_reducible refine w_sub ?_) | ((with_reducible refine' w_mod ?mo ?_); (case mo => first | assumption | decide | omega)) | (with_reducible refine w_and ?_) | (with_reducible refine w_or ?_) | (with_reducible refine w_xor ?_)
  | (with_reducible refine w_gt ?_) | (with_reducible refine w_lt ?_) | (with_reducible refine w_ge ?_) | (with_reducible refine w_le ?_) | ((with_reducible refine' w_eq ?sc ?_); (case sc => rfl)) | ((with_reducible refine' w_ne ?sc ?_); (case sc => rfl))
  | (with_reducible refine w_ret ?_) | (with_reducible refine w_next ?_) | (with_reducible refine w_ifs ?_) | (with_reducible refine w_ifx ?_) | (with_reducible refine w_test ?_) | (with_reducible refine w_tB ?_) | (with_reducible refine w_bl ?_)
  | ((with_reducible refine' w_ixL ?ixh ?ixa ?_); (case ixh => first | exact SqL.of (by assumption)); (case ixa => first | rfl | skip)) | ((with_reducible refine' w_ixT ?ixh ?ixa ?_); (case ixh => first | exact SqT.of (by assumption)); (case ixa => first | rfl | skip))
  | ((with_reducible refine' w_fld ?_)) | ((with_reducible refine' fld ?fh ?fc ?fn ?fl ?_); (case fh => assumption); (case fc => assumption); (case fn => assumption); (case fl => rfl)) | (with_reducible refine w_sfld ?_)
  | (with_reducible refine Or.inl ⟨_, rfl, ?_⟩) | (with_reducible refine w_gsub ?_) | (with_reducible refine w_andV ?_) | (with_reducible refine w_orV ?_)
  | (with_reducible refine w_nil ?_) | (with_reducible refine w_cons ?_) | (with_reducible refine w_tup ?_) | (with_reducible refine w_lst ?_) | (with_reducible refine w_and2 ?_) | (with_reducible refine w_or2 ?_) | (with_reducible refine w_not ?_) | (with_reducible refine w_cb ?_) | (with_reducible refine w_call ?_) | (with_reducible refine w_par ?_) | (with_reducible refine w_pnil ?_) | (with_reducible refine w_pcons ?_) | (with_reducible refine w_dput ?_) | (with_reducible refine w_dget ?_) | (with_reducible refine w_for ?_) | (with_reducible refine w_itup ?_) | (with_reducible refine w_ilist ?_) | (with_reducible refine w_irng ?_) | (with_reducible refine w_meth ?_) | (with_reducible refine w_make ?_) | (with_reducible refine w_makeK ?_) | (with_reducible refine w_methK ?_) | ((with_reducible refine' mth ?mh ?ml ?_); (case mh => assumption); (case ml => rfl)) | (with_reducible refine w_drop ?_))
local macro_rules | `(tactic| walk_at "go") => `(tactic| ((repeat (walk_at "1")); try dsimp only))
/-! ### heard: what an asked call returns, or its error -/
/-- the six names -/
def ceN : Nat → Str
  | 0 => "InvalidWidth"
  | 1 => "InvalidLane"
  | 2 => "InvalidWord"
  | 3 => "InvalidShift"
  | 4 => "InvalidKind"
  | _ => "InvalidLetters"
/-- .. and what heard calls them -/
def ceT : Nat → Str
  | 0 => "width"
  | 1 => "lane"
  | 2 => "word"
  | 3 => "shift"
  | _ => "kind"
/-- what the text knows of the errors: BE the base, ce i the class of the name i -/
structure Er (K : PySem.W.Frag) (mg : Str → Option Value) (BE : Addr) (ce : Nat → Addr) : Prop where
  g_BitError : mg "BitError" = some (.ref BE)
  g_ValueError : mg "ValueError" = none
  g_isinstance : mg "isinstance" = none
  g_repr : mg "repr" = none
  g_ce : ∀ i, i < 6 → mg (ceN i) = some (.ref (ce i))
  exm : ∀ i, i < 5 → PySem.W.exmOne K (.ref (ce i)) (.ref BE) = some true
  ec : ∀ i, i < 5 → ExcC K (ce i)
  xf : ∀ i, i < 5 → XfC K (ce i)
  nv : ∀ i, i < 5 → PySem.W.findIn K (.ref (ce i)) "value" = some none
  kit : ∀ i j, i < 5 → j < 6 → PySem.W.kitOne K (.ref (ce i)) (.ref (ce j)) = some (decide (i = j))
  ve : ∀ i, i < 5 → PySem.W.kitOne K (.ref (ce i)) (.type "ValueError") = some true
/-- the body of the try -/
def tAct (f c' : Addr) (q : Str) (tl : XK → Hp → VK → Prop) (W : WX) : TE := fun σ H Q => σ[0]? = some (some (.ref f)) ∧ H c' = some (CodeO c' q) ∧ ∃ E : XK, (∀ cls d H', E cls d H' → W cls d σ H') ∧ tl E H Q
def tbH (f c' : Addr) (q : Str) (tl : XK → Hp → VK → Prop) : WX → TS := fun W => tRet (tCB rReprA (tCons (tLst (tCons (tC (.str "told")) (tCons (tAct f c' q tl W) tNil))) tNil))
/-- heard, of the lambda's reading -/
def HErr (ce : Nat → Addr) (Q : VK) : XK := fun cls d H => ∃ (i : Nat) (dd : Addr) (y : V) (e : PyData), i < 5 ∧ cls = .ref (ce i) ∧ d = some dd ∧ H dd = some (.xd [("value", y)]) ∧ (∀ H2, Same H H2 → Da H2 y e) ∧ (e.hasDict = true → ∀ H2, Same H H2 → Dn H2 y e) ∧ (PyData.list [.str (ceT i), e]).showable = true ∧ (PyData.list [.str (ceT i), e]).depth ≤ 40 ∧
  (PyData.list [.str (ceT i), e]).shown.length ≤ sizeLine ∧ ∀ H2, Same H H2 → Q (.str (PyData.list [.str (ceT i), e]).shown) H2
def HTold (Q : VK) : VK := fun v H => ∃ e : PyData, (∀ H2, Same H H2 → Da H2 v e) ∧ e.hasDict = false ∧ (PyData.list [.str "told", e]).showable = true ∧ (PyData.list [.str "told", e]).depth ≤ 40 ∧
  (PyData.list [.str "told", e]).shown.length ≤ sizeLine ∧ ∀ H2, Same H H2 → Q (.str (PyData.list [.str "told", e]).shown) H2
def THeard (ce : Nat → Addr) : (XK → Hp → VK → Prop) → Hp → VK → Prop := fun tl H Q => ∀ (E' : XK) (Q' : VK), (∀ cls d H', HErr ce Q cls d H' → E' cls d H') → (∀ v H', HTold Q v H' → Q' v H') → tl E' H Q'
/-- the marks of an error of the class i -/
def marksL (i : Nat) : List V := [.bl (decide (i = 0)), .bl (decide (i = 1)), .bl (decide (i = 2)), .bl (decide (i = 3)), .bl (decide (i = 4)), .bl (decide (i = 5))]
theorem marks_count : ∀ i, i < 5 → ((marksL i).countP fun z => eqV z (.bl true)) = 1 := by decide
theorem marks_at : ∀ i, i < 5 → (marksL i)[i]? = some (.bl true) := by decide
theorem marks_no : ∀ i, i < 5 → ∀ m, m < i → (marksL i)[m]? = some (.bl false) := by decide
theorem marks_5 : ∀ i, i < 5 → atI (marksL i) 5 = some (.bl false) := by decide
theorem names_at : ∀ i : Nat, i < 5 → atI [.str "width", .str "lane", .str "word", .str "shift", .str "kind"] (i : Int) = some (V.str (ceT i)) := by decide
theorem heard_gives {X : Cx} {BE : Addr} {ce : Nat → Addr} {k : Nat} (B : Er X.K X.mg BE ce) (rm2 : Room (k + 1) X.A) (gd2 : X.A.guards = some []) : Gives X "_law_heard" s__law_heard "_law_ask" (THeard ce) := by
  refine ⟨_, sc__law_heard, rfl, .inl (by decide +kernel), fun g cd f c' s H Q tl act hc h => ?_⟩
  have rm : Room k (inDef X ["_law_ask", "_law_caught", "error", "_law_marks"] "_law_heard" s__law_heard g cd s H).A := rm2.deeper _
  have gd : (inDef X ["_law_ask", "_law_caught", "error", "_law_marks"] "_law_heard" s__law_heard g cd s H).A.guards = some [] := gd2
  refine ⟨_, (pss_cons (ps_set (i := 1) sc__law_heard.nd rfl (Or.inl rfl) pe_non)
    (pss_cons (ps_try_keep (tb := tbH f c' (X.env.qual ++ "<lambda>") tl) (ts := fun a cls d => tAsg (tVar 2) (fun v σ H QS => gName 1 v σ H QS)) rfl rfl rfl sc__law_heard.nd (i := 2) rfl rfl ⟨rfl, by decide, .inl B.g_BitError⟩ L2.takes0 ?hb ?hsu)
    (pss_cons (ps_set (i := 3) sc__law_heard.nd rfl (Or.inl rfl) (pe_lst (pa_cons (pe_callB call_isErr (by rfl) B.g_isinstance (by decide +kernel) (pa_cons (pv 1) (pa_cons (pe_glob (v := .ref (ce 0)) rfl (B.g_ce 0 (by decide)) rfl) pa_nil))) (pa_cons (pe_callB call_isErr (by rfl) B.g_isinstance (by decide +kernel) (pa_cons (pv 1) (pa_cons (pe_glob (v := .ref (ce 1)) rfl (B.g_ce 1 (by decide)) rfl) pa_nil))) (pa_cons (pe_callB call_isErr (by rfl) B.g_isinstance (by decide +kernel) (pa_cons (pv 1) (pa_cons (pe_glob (v := .ref (ce 2)) rfl (B.g_ce 2 (by decide)) rfl) pa_nil))) pa_nil)))))
    (pss_cons (ps_set (i := 3) sc__law_heard.nd rfl (Or.inl rfl) (pe_op op_cat (pv 3) (pe_lst (pa_cons (pe_callB call_isErr (by rfl) B.g_isinstance (by decide +kernel) (pa_cons (pv 1) (pa_cons (pe_glob (v := .ref (ce 3)) rfl (B.g_ce 3 (by decide)) rfl) pa_nil))) (pa_cons (pe_callB call_isErr (by rfl) B.g_isinstance (by decide +kernel) (pa_cons (pv 1) (pa_cons (pe_glob (v := .ref (ce 4)) rfl (B.g_ce 4 (by decide)) rfl) pa_nil))) pa_nil)))))
    (pss_cons (ps_expr (pe_bm PySem.F.plainAttrs_list PySem.F.slot_list_append PySem.F.type_list_append mt_append (pv 3) (pa_cons (pe_callB call_isErr (by rfl) B.g_isinstance (by decide +kernel) (pa_cons (pv 1) (pa_cons (pe_glob (v := .ref (ce 5)) rfl (B.g_ce 5 (by decide)) rfl) pa_nil))) pa_nil)))
    (pss_mid (ps_if (PW.pt (pw_or (pt_cmpR op_ne (pe_bm PySem.F.plainAttrs_list PySem.F.slot_list_count PySem.F.type_list_count mt_countF (pv 3) (pa_cons pe_bl pa_nil)) pe_int (nomark _)) (pw_or1 (pt_not (pt_val (pe_callB call_isErr (by rfl) B.g_isinstance (by decide +kernel) (pa_cons (pv 1) (pa_cons (pe_bltn (v := .ty "ValueError") rfl B.g_ValueError (by decide +kernel) rfl) pa_nil))))))))
      (pss_one (ps_ret pe_str))
      pss_nil)
    (pss_cons (ps_if (pt_val (pe_ix ix_list (pv 3) pe_int (fun _ _ => rfl)))
      (pss_one (ps_ret (pe_callB (call_reprA rm gd) (by rfl) B.g_repr (by decide +kernel) (pa_cons (pe_lst (pa_cons pe_str (pa_cons (pe_errf (pv 1)) pa_nil))) pa_nil))))
      pss_nil)
    (pss_one (ps_ret (pe_callB (call_reprA rm gd) (by rfl) B.g_repr (by decide +kernel) (pa_cons (pe_lstB (pa_cons (pe_ix ix_list (pe_lst (pa_cons pe_str (pa_cons pe_str (pa_cons pe_str (pa_cons pe_str (pa_cons pe_str pa_nil)))))) (pe_bm PySem.F.plainAttrs_list PySem.F.slot_list_index PySem.F.type_list_index mt_index (pv 3) (pa_cons pe_bl pa_nil)) (fun _ _ => rfl)) (pa_cons (pe_errf (pv 1)) pa_nil))) pa_nil))))))))))), ?_⟩
  case hb =>
    intro W pn xe tk _
    exact pss_one (ps_ret (pe_callB (call_reprA (k := k) rm gd) (by rfl) B.g_repr (by decide +kernel) (pa_cons (pe_lst (pa_cons pe_str (pa_cons (act W pn xe _ _ tk) pa_nil))) pa_nil)))
  case hsu =>
    intro a oe cls d pn _ _
    exact pss_one (ps_set (i := 1) sc__law_heard.nd rfl (Or.inl rfl) (pv 2))
  walk_at "go"
  show tbH _ _ _ _ _ _ _ _
  unfold tbH
  walk_at "go"
  refine ⟨rfl, hc, _, fun _ _ _ z => z, h _ _ (fun cls d H1 hE => ?_) (fun v H1 hQ => ?_)⟩
  · obtain ⟨i, dd, y, e, hi, rfl, rfl, hdd, hy, hn, sh, dp, sz, q⟩ := hE
    refine ⟨true, B.exm i (by omega), fun _ a na => ?_, fun z => by cases z⟩
    walk_at "go"
    have hi6 : i < 6 := by omega
    have l2 : 2 ≤ sizeLine := by decide
    have l3 : 3 ≤ sizeLine := by decide
    have l5 : 5 ≤ sizeLine := by decide
    have lt5 : 5 < sizeLine := by decide
    have da : dd ≠ a := ne_of_none hdd na
    have ea : upd H1 a (ErrO (.ref (ce i)) (some dd) a) a = some (ErrO (.ref (ce i)) (some dd) a) := upd_same
    have ed : upd H1 a (ErrO (.ref (ce i)) (some dd) a) dd = some (.xd [("value", y)]) := (upd_ne da).trans hdd
    have sm : Same H1 (upd H1 a (ErrO (.ref (ce i)) (some dd) a)) := fun b o z => (upd_ne (ne_of_none z na)).trans z
    generalize upd H1 a (ErrO (.ref (ce i)) (some dd) a) = H2 at ea ed sm
    refine w_isE ea ed (B.ec i hi) (fun u r => r) (B.kit i 0 hi (by decide)) ?_
    walk_at "go"
    refine w_isE ea ed (B.ec i hi) (fun u r => r) (B.kit i 1 hi (by decide)) ?_
    walk_at "go"
    refine w_isE ea ed (B.ec i hi) (fun u r => r) (B.kit i 2 hi (by decide)) ?_
    walk_at "go"
    refine new l3 fun p1 H3 n1 h1 s1 => ?_
    walk_at "go"
    refine w_isE (s1 _ _ ea) (s1 _ _ ed) (B.ec i hi) (fun u r => r) (B.kit i 3 hi (by decide)) ?_
    walk_at "go"
    refine w_isE (s1 _ _ ea) (s1 _ _ ed) (B.ec i hi) (fun u r => r) (B.kit i 4 hi (by decide)) ?_
    walk_at "go"
    refine new l2 fun p2 H4 n2 h2 s2 => ?_
    walk_at "go"
    refine w_cat (s2 _ _ h1) h2 rfl l5 fun p3 H5 n3 h3 s3 => ?_
    walk_at "go"
    have sm5 : Same H2 H5 := fun b o z => s3 b o (s2 b o (s1 b o z))
    have ea5 := sm5 _ _ ea
    have ed5 := sm5 _ _ ed
    have sm15 : Same H1 H5 := fun b o z => sm5 b o (sm b o z)
    have np3 : ∀ b o, H2 b = some o → b ≠ p3 := fun b o z => ne_of_none (s2 b o (s1 b o z)) n3
    refine w_bm ?_
    walk_at "go"
    refine ⟨ty_list h3, ?_⟩
    walk_at "go"
    refine w_isE ea5 ed5 (B.ec i hi) (fun u r => r) (B.kit i 5 hi (by decide)) ?_
    walk_at "go"
    refine w_app (ys := marksL i) h3 lt5 rfl fun H6 h6 e6 => ?_
    have ea6 : H6 a = _ := (e6 a (np3 _ _ ea)).trans ea5
    have ed6 : H6 dd = _ := (e6 dd (np3 _ _ ed)).trans ed5
    have sm6 : Same H1 H6 := fun b o z => (e6 b (np3 _ _ (sm b o z))).trans (sm15 b o z)
    clear e6 h3 n3 s3 sm15 sm5 ea5 ed5 np3 h2 s2 n2 h1 s1 n1
    walk_at "go"
    refine w_mid (fun σ' H' => σ'[1]? = some (some (.ref a)) ∧ σ'[3]? = some (some (.ref p3)) ∧ H' = H6) ?_ fun σ' H' ⟨g1, g3, e⟩ => ?_
    · have cnt := marks_count i hi
      walk_at "go"
      refine w_bm ?_
      walk_at "go"
      refine ⟨ty_list h6, ?_⟩
      walk_at "go"
      refine w_count h6 rfl rfl cnt ?_
      walk_at "go"
      rw [if_neg (show ¬ ((!decide (V.int ((1 : Nat) : Int) = V.int 1)) = true) by decide)]
      walk_at "go"
      refine w_isE (c := .ty "ValueError") ea6 ed6 (B.ec i hi) (fun u r => r) (B.ve i hi) ?_
      walk_at "go"
      rw [if_neg (show ¬ ((!true) = true) by decide)]
      exact ⟨rfl, rfl, rfl⟩
    · subst e
      walk_at "go"
      refine w_var g3 ?_
      walk_at "go"
      have n5 : ¬ (decide (i = 5) = true) := by
        rw [decide_eq_true_eq]
        omega
      rw [if_neg n5]
      walk_at "go"
      refine w_lstB ?_
      walk_at "go"
      refine new l5 fun p4 H7 n4 h4 s4 => ?_
      walk_at "go"
      refine w_bm ?_
      refine w_var g3 ?_
      refine ⟨ty_list (s4 _ _ h6), ?_⟩
      walk_at "go"
      refine ⟨p3, _, .bl true, i, .bl true, rfl, rfl, SqL.of (s4 _ _ h6), rfl, rfl, marks_at i hi, rfl, fun m z' hm hz => ?_, ?_⟩
      · rw [marks_no i hi m hm] at hz
        cases hz
        rfl
      refine w_ixL (SqL.of h4) (names_at i hi) ?_
      walk_at "go"
      refine w_errf ?_
      refine w_var g1 ?_
      refine ⟨a, ce i, dd, _, y, rfl, s4 _ _ ea6, s4 _ _ ed6, B.xf i hi, B.nv i hi, rfl, ?_⟩
      walk_at "go"
      refine newB l2 fun p5 H8 n5 m5 h5 s5 => ?_
      walk_at "go"
      have s8 : Same H1 H8 := fun b o z => s5 b o (s4 b o (sm6 b o z))
      exact ⟨.ref p5, .list [.str (ceT i), e], rfl, Da.lst h5 (.cons (.str _) (.cons (hy _ s8) .nil)), fun z => Dn.two h5 m5 (hn (by simpa [PyData.hasDict, PyData.hasDictAll] using z) _ s8), sh, dp, sz, q _ s8⟩
  · obtain ⟨e, he, hn, sh, dp, sz, q⟩ := hQ
    walk_at "go"
    refine new (show 2 ≤ sizeLine by decide) fun p H2 np hp sm => ?_
    walk_at "go"
    exact ⟨.ref p, .list [.str "told", e], rfl, Da.lst hp (.cons (.str _) (.cons (he H2 sm) .nil)), fun z => (by simp [PyData.hasDict, PyData.hasDictAll, hn] at z), sh, dp, sz, q H2 sm⟩
/-- what is tracked stays, but at p -/
def Kp (p : Addr) (H H' : Hp) : Prop := ∀ b o, H b = some o → b ≠ p → H' b = some o
/-- the pen at p -/
def PenC (n : Nat) (p l : Addr) (cells : List Int) (H : Hp) : Prop := cells.length ≤ 63 ∧ H l = some (.lst (cells.map V.int)) ∧ ∃ (a : Nat) (r : Int), a ≤ n ∧ H p = some (.lst [.ref l, .int a, .int r])
def spDraw : Sp := fun vs H Q _ => ∃ (p l : Addr) (cells : List Int) (n : Nat) (m : Int), vs = [.ref p, .int m] ∧ PenC n p l cells H ∧ n ≤ 100000 ∧ 0 < m ∧ m < 1073741824 ∧
  ∀ (d : Int) (H' : Hp), 0 ≤ d → d < m → PenC (n + 1) p l cells H' → Kp p H H' → Q (.int d) H'
structure Bi (mg : Str → Option Value) : Prop where
  g_int : mg "int" = none
  g_len : mg "len" = none
  g_abs : mg "abs" = none
  g_list : mg "list" = none
  g_repr : mg "repr" = none
  g_range : mg "range" = none
  g_str : mg "str" = none
theorem dp_ints {K : PySem.W.Frag} {H : Hp} : ∀ ns : List Int, DpAll K H (ns.map V.int) (ns.map PyData.int)
  | [] => .nil
  | n :: ns => .cons (.int n) (dp_ints ns)
theorem sh_ints (ns : List Int) : SeqAt.shaped (.list (ns.map PyData.int)) = true := by
  have h1 : ∀ ns : List Int, PyData.canLayAll0 (ns.map PyData.int) = true := fun ns => by
    induction ns with
    | nil => simp [PyData.canLayAll0]
    | cons a as ih => simp only [List.map_cons, PyData.canLayAll0, PyData.canLay0, ih, Bool.and_self]
  have h2 : ∀ ns : List Int, PyData.depthAll (ns.map PyData.int) = 0 := fun ns => by
    induction ns with
    | nil => simp [PyData.depthAll]
    | cons a as ih => simp only [List.map_cons, PyData.depthAll, PyData.depth, ih, Nat.max_self]
  unfold SeqAt.shaped
  simp only [PyData.canLay0, PyData.depth, h1, h2]
  decide
theorem at_int {cells : List Int} {i : Int} (h0 : 0 ≤ i) (h1 : i < (cells.length : Int)) : ∃ c : Int, atI (cells.map V.int) i = some (.int c) := by
  have h : i.toNat < cells.length := by omega
  refine ⟨cells[i.toNat], at_of (j := i.toNat) (by omega) ?_⟩
  rw [List.getElem?_map, List.getElem?_eq_getElem h]
  rfl
section
variable {P : Program} {w : World} {K : PySem.W.Frag} {mg : Str → Option Value} {base : Heap}
theorem ok_draw (D : DefAt K mg "_law_draw" s__law_draw ["_law_pen_here", "_law_many"]) (B : Bi mg) : Cal P w K mg base 1 "_law_draw" spDraw := by
  refine D.cal sc__law_draw (fun vs H Q E h => ?_) (fun f cdv A outer s H vs Q E rm gd h => ?_)
  · obtain ⟨p, l, cells, n, m, rfl, _⟩ := h
    rfl
  · obtain ⟨p, l, cells, n, m, rfl, ⟨hc, hl, a, r, ha, hp⟩, hn, hm, hm2, k⟩ := h
    have hpl : p ≠ l := ne_of hp hl (by
      intro z
      cases cells with
      | nil => cases z
      | cons c cs => injection z with z; injection z with z; cases z)
    refine ⟨_, (pss_cons (ps_if (pt_cmpR op_gt (pe_ix ix_list (pv 0) pe_int (fun _ _ => rfl)) pe_int (nomark _))
      (pss_cons (ps_set (i := 2) sc__law_draw.nd rfl (Or.inl rfl) (pe_op op_mod (pe_callTy call_int1 (by rfl) B.g_int (by decide +kernel) (pa_cons (pe_ix ix_list (pv 0) pe_int (fun _ _ => rfl)) pa_nil)) (pv 1)))
      (pss_cons (ps_asg (pe_op op_fdiv (pe_callTy call_int1 (by rfl) B.g_int (by decide +kernel) (pa_cons (pe_ix ix_list (pv 0) pe_int (fun _ _ => rfl)) pa_nil)) (pv 1)) (pg_sub (pv 0) pe_int set_list))
      (pss_one (ps_ret (pv 2)))))
      pss_nil)
    (pss_cons (ps_set (i := 3) sc__law_draw.nd rfl (Or.inl rfl) (pe_ix ix_list (pv 0) pe_int (fun _ _ => rfl)))
    (pss_cons (ps_asg (pe_op op_add (pv 3) pe_int) (pg_sub (pv 0) pe_int set_list))
    (pss_cons (ps_set (i := 4) sc__law_draw.nd rfl (Or.inl rfl) (pe_op op_add (pe_op op_mul pe_int (pv 3)) pe_int))
    (pss_mid (ps_if (pt_cmpR (op_neD rm.units) (pe_ix ix_list (pv 0) pe_int (fun _ _ => rfl)) (pe_lst pa_nil) (nomark _))
      (pss_one (ps_set (i := 4) sc__law_draw.nd rfl (Or.inl rfl) (pe_ix ix_list (pe_ix ix_list (pv 0) pe_int (fun _ _ => rfl)) (pe_op op_mod (pe_callTy call_int1 (by rfl) B.g_int (by decide +kernel) (pa_cons (pv 3) pa_nil)) (pe_callB call_len_seq (by rfl) B.g_len (by decide +kernel) (pa_cons (pe_ix ix_list (pv 0) pe_int (fun _ _ => rfl)) pa_nil))) (fun _ _ => rfl))))
      pss_nil)
    (pss_mid (ps_if (PW.pt (pw_and (pt_cmpR op_lt (pv 3) (pe_callB call_len_seq (by rfl) B.g_len (by decide +kernel) (pa_cons (pe_ix ix_list (pv 0) pe_int (fun _ _ => rfl)) pa_nil)) (nomark _)) (pw_and1 (pt_cmpR op_ge (pe_callB call_abs (by rfl) B.g_abs (by decide +kernel) (pa_cons (pv 4) pa_nil)) (pe_op op_pow pe_int pe_int) (nomark _)))))
      (pss_cons (ps_set (i := 5) sc__law_draw.nd rfl (Or.inl rfl) (pe_op op_add (pe_op op_mul pe_int (pe_callB call_abs (by rfl) B.g_abs (by decide +kernel) (pa_cons (pv 4) pa_nil))) (pe_callTy call_int1 (by rfl) B.g_int (by decide +kernel) (pa_cons (pe_cmpR op_lt (pv 4) pe_int (nomark _)) pa_nil))))
      (pss_cons (ps_asg (pe_op op_fdiv (pv 5) (pv 1)) (pg_sub (pv 0) pe_int set_list))
      (pss_one (ps_ret (pe_op op_mod (pe_callTy call_int1 (by rfl) B.g_int (by decide +kernel) (pa_cons (pv 5) pa_nil)) (pv 1))))))
      pss_nil)
    (pss_cons (ps_set (i := 6) sc__law_draw.nd rfl (Or.inl rfl) (pe_op op_mod (pe_op op_pow (pe_callTy call_int1 (by rfl) B.g_int (by decide +kernel) (pa_cons (pe_op op_add (pe_op op_add (pe_op op_mod (pe_callTy call_int1 (by rfl) B.g_int (by decide +kernel) (pa_cons (pv 4) pa_nil)) pe_int) (pe_op op_mul pe_int (pv 3))) pe_int) pa_nil)) pe_int) pe_int))
    (pss_cons (ps_set (i := 6) sc__law_draw.nd rfl (Or.inl rfl) (pe_op op_mod (pe_op op_pow (pe_callTy call_int1 (by rfl) B.g_int (by decide +kernel) (pa_cons (pe_op op_add (pe_op op_add (pe_op op_mul (pv 6) (pe_op op_add (pv 3) pe_int)) (pe_op op_mul (pe_op op_mul pe_int (pv 3)) (pv 3))) pe_int) pa_nil)) pe_int) pe_int))
    (pss_one (ps_ret (pe_op op_mod (pe_callTy call_int1 (by rfl) B.g_int (by decide +kernel) (pa_cons (pe_op op_fdiv (pv 6) pe_int) pa_nil)) (pv 1)))))))))))), ?_⟩
    walk_at "go"
    refine ite2 (fun h0 => ?_) (fun h0 => ?_)
    · walk_at "go"
      refine w_fdiv ⟨hm, hm2⟩ ?_
      walk_at "go"
      refine w_setG hp rfl rfl fun H1 hp1 e1 => ?_
      walk_at "go"
      refine k _ _ (Int.emod_nonneg _ (by omega)) (Int.emod_lt_of_pos _ hm) ⟨hc, (e1 l hpl.symm).trans hl, a, r / m, by omega, hp1⟩ fun b o e nb => (e1 b nb).trans e
    · walk_at "go"
      refine w_setG hp rfl rfl fun H1 hp1 e1 => ?_
      have hl1 : H1 l = some (.lst (cells.map V.int)) := (e1 l hpl.symm).trans hl
      have hp1 : H1 p = some (.lst [.ref l, .int ((a + 1 : Nat) : Int), .int r]) := hp1
      walk_at "go"
      refine w_mul (.inl ⟨by omega, by omega⟩) ?_
      walk_at "go"
      refine ⟨fun σ' H' => Same H1 H' ∧ ∃ c : Int, σ' = [some (.ref p), some (.int m), none, some (.int a), some (.int c), none, none], ?_, ?_⟩
      · walk_at "go"
        refine new (by decide) fun z H2 nz hz s2 => ?_
        have hp2 := s2 _ _ hp1
        have hl2 := s2 _ _ hl1
        refine ⟨.list (cells.map .int), .list [], .lst (SqL.of hl2) (dp_ints cells), .lst (SqL.of hz) .nil, sh_ints cells, by decide +kernel, ?_⟩
        walk_at "go"
        refine ite2 (fun hne => ?_) (fun _ => ?_)
        · have pos : 0 < cells.length := by
            cases cells with
            | nil => exact absurd hne (by decide)
            | cons c cs => exact Nat.succ_pos _
          walk_at "go"
          refine ⟨l, cells.map .int, rfl, .inl (SqL.of hl2), ?_⟩
          rw [List.length_map]
          walk_at "go"
          have b0 : 0 ≤ (a : Int) % (cells.length : Int) := Int.emod_nonneg _ (by omega)
          have b1 : (a : Int) % (cells.length : Int) < (cells.length : Int) := Int.emod_lt_of_pos _ (by omega)
          obtain ⟨c, hc'⟩ := at_int (cells := cells) b0 b1
          refine w_ixL (SqL.of hl2) hc' ?_
          walk_at "go"
          exact ⟨s2, c, rfl⟩
        · walk_at "go"
          exact ⟨s2, _, rfl⟩
      · rintro σ' H2 ⟨s2, c, rfl⟩
        have hp2 := s2 _ _ hp1
        have hl2 := s2 _ _ hl1
        have fin : ∀ (d : Int) (rr : Int) (H' : Hp), 0 ≤ d → d < m → H' p = some (.lst [.ref l, .int ((a + 1 : Nat) : Int), .int rr]) → (∀ b, b ≠ p → H' b = H2 b) → Q (V.int d) H' := fun d rr H' d0 d1 hp' e' =>
          k d H' d0 d1 ⟨hc, (e' l hpl.symm).trans hl2, a + 1, rr, by omega, hp'⟩ fun b o e nb => (e' b nb).trans (s2 _ _ ((e1 b nb).trans e))
        have absok : ∀ c : Int, 0 ≤ (if c < 0 then -c else c) := fun c => by split <;> omega
        refine ⟨fun σ' H' => H' = H2 ∧ σ' = [some (.ref p), some (.int m), none, some (.int a), some (.int c), none, none], ?_, ?_⟩
        · have big : ∀ (b : Int) (D : Ends), (∀ (d : Int) (H' : Hp), D.rt (.int d) H' = Q (.int d) H') → True := fun _ _ _ => trivial
          walk_at "go"
          refine ⟨l, cells.map .int, rfl, .inl (SqL.of hl2), ?_⟩
          rw [List.length_map]
          walk_at "go"
          refine ite2 (fun h1 => ?_) (fun h1 => ?_)
          · walk_at "go"
            refine ⟨c, rfl, ?_⟩
            walk_at "go"
            refine w_pow ⟨by decide, by decide, by decide⟩ ?_
            walk_at "go"
            refine ite2 (fun h2 => ?_) (fun h2 => ?_)
            · walk_at "go"
              refine ⟨c, rfl, ?_⟩
              refine w_mul (.inl ⟨by decide, by decide⟩) ?_
              walk_at "go"
              refine .inr ⟨_, rfl, ?_⟩
              walk_at "go"
              refine w_fdiv ⟨hm, hm2⟩ ?_
              walk_at "go"
              refine w_setG hp2 rfl rfl fun H3 hp3 e3 => ?_
              walk_at "go"
              exact fin _ _ _ (Int.emod_nonneg _ (by omega)) (Int.emod_lt_of_pos _ hm) hp3 e3
            · walk_at "go"
              exact ⟨rfl, rfl⟩
          · walk_at "go"
            refine ite2 (fun h2 => absurd h2 (by decide)) (fun h2 => ?_)
            walk_at "go"
            exact ⟨rfl, rfl⟩
        · rintro σ' H' ⟨rfl, rfl⟩
          have an : 0 ≤ (a : Int) := Int.natCast_nonneg _
          have a2 : (a : Int) ≤ 100000 := by omega
          walk_at "go"
          refine w_mul (.inl ⟨by decide, by decide⟩) ?_
          walk_at "go"
          have q0 : 0 ≤ c % 2147483579 := Int.emod_nonneg _ (by decide)
          have q1 : c % 2147483579 < 2147483579 := Int.emod_lt_of_pos _ (by decide)
          refine w_pow ⟨by decide, by decide, by omega⟩ ?_
          walk_at "go"
          generalize hx : (c % 2147483579 + 57131 * (a : Int) + 211) ^ Int.toNat 5 % 2147483629 = x
          have x0 : 0 ≤ x := by rw [← hx]; exact Int.emod_nonneg _ (by decide)
          have x1 : x < 2147483629 := by rw [← hx]; exact Int.emod_lt_of_pos _ (by decide)
          refine w_mul (.inl ⟨by omega, by omega⟩) ?_
          walk_at "go"
          refine w_mul (.inl ⟨by decide, by decide⟩) ?_
          walk_at "go"
          refine w_mul (.inr ⟨by omega, by omega⟩) ?_
          walk_at "go"
          have y0 : 0 ≤ x * ((a : Int) + 64007) := Int.mul_nonneg x0 (by omega)
          have y1 : x * ((a : Int) + 64007) ≤ 2147483629 * 164007 := Int.mul_le_mul (by omega) (by omega) (by omega) (by decide)
          have z0 : 0 ≤ 91009 * (a : Int) * (a : Int) := Int.mul_nonneg (by omega) an
          have z1 : 91009 * (a : Int) * (a : Int) ≤ 91009 * 100000 * 100000 := Int.mul_le_mul (by omega) a2 an (by decide)
          refine w_pow ⟨by decide, by decide, by omega⟩ ?_
          walk_at "go"
          refine w_fdiv ⟨by decide, by decide⟩ ?_
          walk_at "go"
          exact fin _ r _ (Int.emod_nonneg _ (by omega)) (Int.emod_lt_of_pos _ hm) hp2 fun _ _ => rfl
theorem cut_ints (ns : List Int) (lo hi : Option Int) : ∃ ms : List Int, cutV (ns.map V.int) lo hi = ms.map V.int ∧ ms.length ≤ ns.length := by
  unfold cutV
  refine ⟨(ns.drop (HT.sIx (ns.map V.int).length 0 lo)).take (HT.sIx (ns.map V.int).length (ns.map V.int).length hi - HT.sIx (ns.map V.int).length 0 lo), ?_, ?_⟩
  · rw [List.map_take, List.map_drop]
  · rw [List.length_take, List.length_drop]
    omega
def spPen (K : PySem.W.Frag) : Sp := fun vs H Q _ => ∃ (a : Addr) (ns : List Int), vs = [.ref a] ∧ SqL K H a (ns.map V.int) ∧ ns.length ≤ 63 ∧
  ∀ (p l : Addr) (cells : List Int) (H' : Hp), H p = none → PenC 0 p l cells H' → Same H H' → Q (.ref p) H'
theorem ok_pen (D : DefAt K mg "_law_pen" s__law_pen ["_law_script"]) (B : Bi mg) : Cal P w K mg base 1 "_law_pen" (spPen K) := by
  refine D.cal sc__law_pen (fun vs H Q E h => ?_) (fun f cdv A outer s H vs Q E rm gd h => ?_)
  · obtain ⟨a, ns, rfl, _⟩ := h
    rfl
  · obtain ⟨a, ns, rfl, hs, hl, k⟩ := h
    obtain ⟨ms, em, lm⟩ := cut_ints ns none (some 63)
    refine ⟨_, (pss_one (ps_ret (pe_lst (pa_cons (pe_callTy call_list_of (by rfl) B.g_list (by decide +kernel) (pa_cons (pe_slice sl_list (pv 0) po_none (po_some pe_int)) pa_nil)) (pa_cons pe_int (pa_cons pe_int pa_nil)))))), ?_⟩
    walk_at "go"
    refine ⟨_, rfl, _, rfl, a, ns.map .int, rfl, hs, fun p1 n1 => ?_⟩
    rw [em]
    have s1 : Same H (upd H p1 (.lst (ms.map V.int))) := fun b u e => by rw [upd_ne (ne_of_none e n1)]; exact e
    walk_at "go"
    refine ⟨p1, ms.map .int, rfl, .inl (SqL.of upd_same), fun l nl => ?_⟩
    have s2 : Same (upd H p1 (.lst (ms.map V.int))) (upd (upd H p1 (.lst (ms.map V.int))) l (.lst (ms.map V.int))) := fun b u e => by rw [upd_ne (ne_of_none e nl)]; exact e
    walk_at "go"
    refine new (by show 3 ≤ sizeLine; decide) fun p H3 np h3 s3 => ?_
    exact k p l ms H3 (s1.free (s2.free np)) ⟨by omega, s3 _ _ upd_same, 0, 0, Nat.le_refl _, h3⟩ (s1.trans (s2.trans s3))
end
section
variable {P : Program} {w : World} {K : PySem.W.Frag} {mg : Str → Option Value} {base : Heap} {C : Addr} {mc : Value}
end
def spWords : Sp := fun vs H Q _ => ∃ (p l : Addr) (cells : List Int) (n : Nat), vs = [.ref p] ∧ PenC n p l cells H ∧ n + 3 ≤ 100000 ∧
  ∀ (t : Addr) (r w d : Str) (H' : Hp), r ∈ RD → w ∈ WR → d ∈ DV → H t = none → H' t = some (.tup [.str r, .str w, .str d]) → PenC (n + 3) p l cells H' → Kp p H H' → Q (.ref t) H'
/-! ### odd values -/
/-- the objects among them -/
def OvO (o : HO) (d : PyData) : Prop := (o = .tup [] ∧ d = .tuple []) ∨ (o = .tup [.str "keep"] ∧ d = .tuple [.str "keep"]) ∨ (o = .lst [.str "none"] ∧ d = .list [.str "none"]) ∨ (o = .dK [] ∧ d = .dict [])
def Ov (H : Hp) (x : V) (d : PyData) : Prop := (x = .non ∧ d = .none) ∨ (∃ b, x = .bl b ∧ d = .bool b) ∨ (∃ i, x = .int i ∧ d = .int i) ∨ (∃ z, x = .str z ∧ d = .str z) ∨ ∃ a o, x = .ref a ∧ H a = some o ∧ OvO o d
theorem Ov.da {H : Hp} {x : V} {d : PyData} (h : Ov H x d) : Da H x d := by
  rcases h with ⟨rfl, rfl⟩ | ⟨b, rfl, rfl⟩ | ⟨i, rfl, rfl⟩ | ⟨z, rfl, rfl⟩ | ⟨a, o, rfl, ha, h⟩
  · exact .non
  · exact .bl b
  · exact .int i
  · exact .str z
  · rcases h with ⟨rfl, rfl⟩ | ⟨rfl, rfl⟩ | ⟨rfl, rfl⟩ | ⟨rfl, rfl⟩
    · exact .tup ha .nil
    · exact .tup ha (.cons (.str _) .nil)
    · exact .lst ha (.cons (.str _) .nil)
    · exact .dict0 ha
theorem Ov.dn {H : Hp} {x : V} {d : PyData} (h : Ov H x d) (k : d.hasDict = true) : Dn H x d := by
  rcases h with ⟨rfl, rfl⟩ | ⟨b, rfl, rfl⟩ | ⟨i, rfl, rfl⟩ | ⟨z, rfl, rfl⟩ | ⟨a, o, rfl, ha, h⟩
  · simp [PyData.hasDict] at k
  · simp [PyData.hasDict] at k
  · simp [PyData.hasDict] at k
  · simp [PyData.hasDict] at k
  · rcases h with ⟨rfl, rfl⟩ | ⟨rfl, rfl⟩ | ⟨rfl, rfl⟩ | ⟨rfl, rfl⟩
    · simp [PyData.hasDict, PyData.hasDictAll] at k
    · simp [PyData.hasDict, PyData.hasDictAll] at k
    · simp [PyData.hasDict, PyData.hasDictAll] at k
    · exact .dict0 ha
theorem Ov.same {H H' : Hp} {x : V} {d : PyData} (s : Same H H') (h : Ov H x d) : Ov H' x d := by
  rcases h with h | h | h | h | ⟨a, o, e, ha, h⟩
  · exact .inl h
  · exact .inr (.inl h)
  · exact .inr (.inr (.inl h))
  · exact .inr (.inr (.inr (.inl h)))
  · exact .inr (.inr (.inr (.inr ⟨a, o, e, s _ _ ha, h⟩)))
/-- .. what changes is a list of three, or of whatever else -/
theorem Ov.but {H H' : Hp} {x : V} {d : PyData} {p : Addr} {xs : List V} (hp : H p = some (.lst xs)) (nx : 2 ≤ xs.length) (s : ∀ b o, H b = some o → b ≠ p → H' b = some o) (h : Ov H x d) : Ov H' x d := by
  rcases h with h | h | h | h | ⟨a, o, e, ha, h⟩
  · exact .inl h
  · exact .inr (.inl h)
  · exact .inr (.inr (.inl h))
  · exact .inr (.inr (.inr (.inl h)))
  · refine .inr (.inr (.inr (.inr ⟨a, o, e, s _ _ ha fun z => ?_, h⟩)))
    rw [z, hp] at ha
    cases ha
    rcases h with ⟨h, _⟩ | ⟨h, _⟩ | ⟨h, _⟩ | ⟨h, _⟩ <;> cases h
    simp at nx
/-- the data that are drawn -/
def oddD : List PyData := [.str "keep", .str "take", .str "store", .str "clear1", .str "clear0", .str "set1", .str "flip1", .str "once", .str "none", .str "still", .str "raise", .str "end", .str "drift", .str "Keep", .str "keep ", .str " still", .str "", .str "clear", .str "set", .none, .bool true, .int 0, .int 1,
  .tuple [], .tuple [.str "keep"], .list [.str "none"], .dict [], .int (10 ^ 59), .str "keep take"]
def okD (d : PyData) : Bool := (PyData.list [.str "kind", d]).showable && decide ((PyData.list [.str "kind", d]).depth ≤ 40) && decide ((PyData.list [.str "kind", d]).shown.length ≤ 1000) && (d.canLay0 || (match d with | .dict [] => true | _ => false)) && decide (d.depth ≤ 40)
theorem okD_all : ∀ d ∈ oddD, okD d = true := by decide +kernel
def spOdd : Sp := fun vs H Q _ => ∃ (p l : Addr) (cells : List Int) (n : Nat), vs = [.ref p] ∧ PenC n p l cells H ∧ n + 1 ≤ 100000 ∧
  ∀ (x : V) (d : PyData) (H' : Hp), d ∈ oddD → Ov H' x d → PenC (n + 1) p l cells H' → Kp p H H' → Q x H'
section
variable {P : Program} {w : World} {K : PySem.W.Frag} {mg : Str → Option Value} {base : Heap} {C : Addr} {mc : Value}
def spEQ (K : PySem.W.Frag) (C : Addr) : Sp := fun vs H Q _ => (∃ (k j : Addr) (r w d r' w' d' : Str), vs = [.ref k, .ref j] ∧ KindAt C H k r w d ∧ KindAt C H j r' w' d' ∧ Q (.bl (decide (r = r') && decide (w = w') && decide (d = d'))) H) ∨
  (∃ (k : Addr) (y : V) (t : Value), vs = [.ref k, y] ∧ TyX K H y t ∧ PySem.W.kitOne K t (.ref C) = some false ∧ Q (.bl false) H)
theorem ty_kind (T : K8 K mg C mc) {H : Hp} {k : Addr} {r wr d : Str} (h : KindAt C H k r wr d) : TyX K H (.ref k) (.ref C) := by
  obtain ⟨dx, st, hk⟩ := h
  exact .base (.ins hk T.cl T.isC T.isG T.isT T.isM)
theorem ok_EQ {f : Addr} (D : MetAt K C "__eq__" "Kind.__eq__" s_Kind___eq__ ["self", "other"] f) (T : K8 K mg C mc) : ∃ fd, Meth K C "__eq__" f ∧ Fun K "__eq__" "Kind.__eq__" s_Kind___eq__ f fd ∧ Binds K fd ["self", "other"] [] ∧ Gd P w K mg base CX0 1 f fd ["self", "other"] (spEQ K C) := by
  refine D.gd sc_Kind___eq__ (fun vs H Q E h => ?_) (fun cdv A outer s H vs Q E rm gd h => ?_)
  · rcases h with ⟨k, j, r, w, d, r', w', d', rfl, _⟩ | ⟨k, y, t, rfl, _⟩ <;> rfl
  · have B := T
    rcases h with ⟨k, j, r, wr, d, r', w', d', rfl, Hk, Hj, q⟩ | ⟨k, y, t, rfl, ty, kt, q⟩
    rotate_left
    · refine ⟨_, (pss_one (ps_ret (pe_and (pe_callB call_isi (by rfl) B.g_isinstance (by decide +kernel) (pa_cons (pv 1) (pa_cons (pe_glob (v := .ref C) rfl T.g_Kind rfl) pa_nil))) (pe_and (pe_cmpR op_eq (pe_fld (pv 0) rfl) (pe_fld (pv 1) rfl) (nomark _)) (pe_and (pe_cmpR op_eq (pe_fld (pv 0) rfl) (pe_fld (pv 1) rfl) (nomark _)) (pe_one (pe_cmpR op_eq (pe_fld (pv 0) rfl) (pe_fld (pv 1) rfl) (nomark _)))))))), ?_⟩
      walk_at "go"
      refine ⟨y, .ref C, t, .ref C, false, rfl, .own C, ty, kt, false, rfl, ?_⟩
      exact iteF q
    obtain ⟨dx, st, hk⟩ := id Hk
    obtain ⟨dy, su, hj⟩ := id Hj
    have cl := T.cl
    have nR := T.nR
    have nW := T.nW
    have nD := T.nD
    refine ⟨_, (pss_one (ps_ret (pe_and (pe_callB call_isi (by rfl) B.g_isinstance (by decide +kernel) (pa_cons (pv 1) (pa_cons (pe_glob (v := .ref C) rfl T.g_Kind rfl) pa_nil))) (pe_and (pe_cmpR op_eq (pe_fld (pv 0) rfl) (pe_fld (pv 1) rfl) (nomark _)) (pe_and (pe_cmpR op_eq (pe_fld (pv 0) rfl) (pe_fld (pv 1) rfl) (nomark _)) (pe_one (pe_cmpR op_eq (pe_fld (pv 0) rfl) (pe_fld (pv 1) rfl) (nomark _)))))))), ?_⟩
    walk_at "go"
    refine ⟨.ref j, .ref C, .ref C, .ref C, true, rfl, .own C, ty_kind T Hj, if_pos (beq_self_eq_true _), true, rfl, ?_⟩
    refine iteT ?_
    walk_at "go"
    have dS : ∀ a b : Str, decide (V.str a = V.str b) = decide (a = b) := fun a b => by
      by_cases h : a = b
      · subst h
        rw [decide_eq_true rfl, decide_eq_true rfl]
      · rw [decide_eq_false h, decide_eq_false fun z => h (V.str.inj z)]
    rw [dS]
    by_cases h1 : r = r'
    · rw [decide_eq_true h1] at q ⊢
      refine iteT ?_
      walk_at "go"
      rw [dS]
      by_cases h2 : wr = w'
      · rw [decide_eq_true h2] at q ⊢
        refine iteT ?_
        walk_at "go"
        rw [dS]
        exact q
      · rw [decide_eq_false h2] at q ⊢
        exact iteF q
    · rw [decide_eq_false h1] at q ⊢
      exact iteF q
def spST (C : Addr) : Sp := fun vs H Q _ => ∃ (k : Addr) (r w d : Str), vs = [.ref k] ∧ KindAt C H k r w d ∧ r ∈ RD ∧ w ∈ WR ∧ d ∈ DV ∧ Q (.str (Str.empty ++ r ++ " " ++ w ++ " " ++ d)) H
theorem sh_rd : ∀ x ∈ RD, x.length ≤ 10 := by decide +kernel
theorem sh_wr : ∀ x ∈ WR, x.length ≤ 10 := by decide +kernel
theorem sh_dv : ∀ x ∈ DV, x.length ≤ 10 := by decide +kernel
theorem ln {a b : Str} {n m k : Nat} (h1 : a.length ≤ n) (h2 : b.length ≤ m) (h : n + m ≤ k) : (a ++ b).length ≤ k := by
  rw [strLen_append]
  omega
theorem ok_ST {f : Addr} (D : MetAt K C "__str__" "Kind.__str__" s_Kind___str__ ["self"] f) (T : K8 K mg C mc) : ∃ fd, Meth K C "__str__" f ∧ Fun K "__str__" "Kind.__str__" s_Kind___str__ f fd ∧ Binds K fd ["self"] [] ∧ Gd P w K mg base CX0 1 f fd ["self"] (spST C) := by
  refine D.gd sc_Kind___str__ (fun vs H Q E h => ?_) (fun cdv A outer s H vs Q E rm gd h => ?_)
  · obtain ⟨k, r, w, d, rfl, _⟩ := h
    rfl
  · obtain ⟨k, r, wr, d, rfl, ⟨dx, st, hk⟩, hr, hw, hd, q⟩ := h
    have cl := T.cl
    have nR := T.nR
    have nW := T.nW
    have nD := T.nD
    have l1 := sh_rd r hr
    have l2 := sh_wr wr hw
    have l3 := sh_dv d hd
    have big : ∀ {n : Nat}, n ≤ 100 → n ≤ sizeLine := fun h => Nat.le_trans h (by decide)
    have e0 : (Str.empty ++ r).length ≤ 10 := ln (n := 0) (m := 10) (Nat.le_refl _) l1 (by decide)
    have e1 : (Str.empty ++ r ++ (" " : Str)).length ≤ 11 := ln e0 (m := 1) (by decide) (by decide)
    have e2 : (Str.empty ++ r ++ (" " : Str) ++ wr).length ≤ 21 := ln e1 l2 (by decide)
    have e3 : (Str.empty ++ r ++ (" " : Str) ++ wr ++ (" " : Str)).length ≤ 22 := ln e2 (m := 1) (by decide) (by decide)
    have e4 : (Str.empty ++ r ++ (" " : Str) ++ wr ++ (" " : Str) ++ d).length ≤ 32 := ln e3 l3 (by decide)
    refine ⟨_, (pss_one (ps_ret (pe_joined (.cons (pe_fmt (pe_fld (pv 0) rfl)) (.cons pe_str (.cons (pe_fmt (pe_fld (pv 0) rfl)) (.cons pe_str (.cons (pe_fmt (pe_fld (pv 0) rfl)) .nil)))))))), ?_⟩
    refine ⟨_, rfl, k, C, dx, _, _, rfl, hk, cl, nR, rfl, .inl ⟨r, rfl, big (by omega), r, rfl, big (by omega), " ", rfl, big (by omega), ?_⟩⟩
    refine ⟨_, rfl, k, C, dx, _, _, rfl, hk, cl, nW, rfl, .inl ⟨wr, rfl, big (by omega), wr, rfl, big (by omega), " ", rfl, big (by omega), ?_⟩⟩
    exact ⟨_, rfl, k, C, dx, _, _, rfl, hk, cl, nD, rfl, .inl ⟨d, rfl, big (by omega), d, rfl, big (by omega), q⟩⟩
theorem dS (a b : Str) : decide (V.str a = V.str b) = decide (a = b) := by
  by_cases h : a = b
  · subst h
    rw [decide_eq_true rfl, decide_eq_true rfl]
  · rw [decide_eq_false h, decide_eq_false fun z => h (V.str.inj z)]
theorem dI (a b : Int) : decide (V.int a = V.int b) = decide (a = b) := by
  by_cases h : a = b
  · subst h
    rw [decide_eq_true rfl, decide_eq_true rfl]
  · rw [decide_eq_false h, decide_eq_false fun z => h (V.int.inj z)]
theorem PenC.same {n : Nat} {p l : Addr} {cells : List Int} {H H' : Hp} (h : PenC n p l cells H) (s : Same H H') : PenC n p l cells H' := by
  obtain ⟨a, b, c, d, e, f⟩ := h
  exact ⟨a, s _ _ b, c, d, e, s _ _ f⟩
theorem at_strs {l : List Str} {i : Int} (h0 : 0 ≤ i) (h1 : i < (l.length : Int)) : ∃ x, x ∈ l ∧ atI (l.map V.str) i = some (.str x) := by
  have h : i.toNat < l.length := by omega
  refine ⟨l[i.toNat], List.getElem_mem h, at_of (j := i.toNat) (by omega) ?_⟩
  rw [List.getElem?_map, List.getElem?_eq_getElem h]
  rfl
theorem ok_words (D : DefAt K mg "_law_words" s__law_words ["_law_pen_here"]) (c_law_draw : Cal P w K mg base 1 "_law_draw" spDraw) : Cal P w K mg base 2 "_law_words" spWords := by
  refine D.cal sc__law_words (fun vs H Q E h => ?_) (fun f cdv A outer s H vs Q E rm gd h => ?_)
  · obtain ⟨p, l, cells, n, rfl, _⟩ := h
    rfl
  · obtain ⟨p, l, cells, n, rfl, pen, hn, q⟩ := h
    refine ⟨_, (pss_cons (ps_set (i := 1) sc__law_words.nd rfl (Or.inl rfl) (pe_tup (pa_cons pe_str (pa_cons pe_str (pa_cons pe_str (pa_cons pe_str (pa_cons pe_str (pa_cons pe_str (pa_cons pe_str pa_nil)))))))))
    (pss_cons (ps_set (i := 2) sc__law_words.nd rfl (Or.inl rfl) (pe_ix ix_tup (pe_tup (pa_cons pe_str (pa_cons pe_str pa_nil))) (pc c_law_draw rm (by decide) gd rfl (pa_cons (pv 0) (pa_cons pe_int pa_nil))) (fun _ _ => rfl)))
    (pss_one (ps_ret (pe_tup (pa_cons (pv 2) (pa_cons (pe_ix ix_tup (pv 1) (pc c_law_draw rm (by decide) gd rfl (pa_cons (pv 0) (pa_cons pe_int pa_nil))) (fun _ _ => rfl)) (pa_cons (pe_ix ix_tup (pe_tup (pa_cons pe_str (pa_cons pe_str (pa_cons pe_str (pa_cons pe_str pa_nil))))) (pc c_law_draw rm (by decide) gd rfl (pa_cons (pv 0) (pa_cons pe_int pa_nil))) (fun _ _ => rfl)) pa_nil)))))))), ?_⟩
    walk_at "go"
    refine new (by show 7 ≤ sizeLine; decide) fun t1 H1 n1 h1 s1 => ?_
    walk_at "go"
    refine new (by show 2 ≤ sizeLine; decide) fun t2 H2 n2 h2 s2 => ?_
    walk_at "go"
    refine ⟨p, l, cells, n, 2, rfl, (pen.same s1).same s2, by omega, by decide, by decide, fun i1 H3 b0 b1 pen1 k1 => ?_⟩
    have pn : ∀ {t : Addr} {xs : List V} {m : Nat} {G : Hp}, G t = some (.tup xs) → PenC m p l cells G → t ≠ p := fun h ⟨_, _, _, _, _, z⟩ => ne_of h z (by intro y; cases y)
    have h2' := k1 _ _ h2 (pn h2 ((pen.same s1).same s2))
    have h1' := k1 _ _ (s2 _ _ h1) (pn (s2 _ _ h1) ((pen.same s1).same s2))
    obtain ⟨r, hr, er⟩ := at_strs (l := RD) b0 b1
    refine w_ixT (SqT.of h2') er ?_
    walk_at "go"
    refine ⟨p, l, cells, n + 1, 7, rfl, pen1, by omega, by decide, by decide, fun i2 H4 c0 c1 pen2 k2 => ?_⟩
    obtain ⟨wr, hw, ew⟩ := at_strs (l := WR) c0 c1
    refine w_ixT (SqT.of (k2 _ _ h1' (pn h1' pen1))) ew ?_
    walk_at "go"
    refine new (by show 4 ≤ sizeLine; decide) fun t3 H5 n5 h5 s5 => ?_
    walk_at "go"
    refine ⟨p, l, cells, n + 2, 4, rfl, pen2.same s5, by omega, by decide, by decide, fun i3 H6 e0 e1 pen3 k3 => ?_⟩
    obtain ⟨d, hd, ed⟩ := at_strs (l := DV) e0 e1
    refine w_ixT (SqT.of (k3 _ _ h5 (pn h5 (pen2.same s5)))) ed ?_
    walk_at "go"
    refine new (by show 3 ≤ sizeLine; decide) fun t7 H7 n7 h7 s7 => ?_
    have kAll : Kp p H H7 := fun b o hb nb => s7 _ _ (k3 _ _ (s5 _ _ (k2 _ _ (k1 _ _ (s2 _ _ (s1 _ _ hb)) nb) nb)) nb)
    have nt : H t7 = none := by
      cases z : H t7 with
      | none => rfl
      | some o =>
        by_cases e : t7 = p
        · obtain ⟨_, _, _, _, _, zp⟩ := pen3
          rw [e] at n7
          rw [n7] at zp
          cases zp
        · have y := k3 _ _ (s5 _ _ (k2 _ _ (k1 _ _ (s2 _ _ (s1 _ _ z)) e) e)) e
          rw [n7] at y
          cases y
    exact q t7 r wr d H7 hr hw hd nt h7 (pen3.same s7) kAll
/-! ### one state -/
end
end Law

set_option Elab.async false
set_option linter.all false
set_option maxRecDepth 100000
set_option maxHeartbeats 4000000
namespace Law
open PySem PySem.Spec PySem.Calls PyProof.Rows L2 KG LamX
local macro_rules | `(tactic| walk_at "1") => `(tactic| first
  | (with_reducible refine w_var rfl ?_) | (with_reducible refine w_c ?_) | (with_reducible refine w_seq ?_) | (with_reducible refine w_asg ?_) | (with_reducible refine w_gname ?_) | (with_reducible refine w_op ?_) | (with_reducible refine w_un ?_)
  | (with_reducible refine w_add ?_) | (with_reducible refine w_sub ?_) | ((with_reducible refine' w_mod ?mo ?_); (case mo => first | assumption | decide | omega)) | (with_reducible refine w_and ?_) | (with_reducible refine w_or ?_) | (with_reducible refine w_xor ?_)
  | (with_reducible refine w_gt ?_) | (with_reducible refine w_lt ?_) | (with_reducible refine w_ge ?_) | (with_reducible refine w_le ?_) | ((with_reducible refine' w_eq ?sc ?_); (case sc => rfl)) | ((with_reducible refine' w_ne ?sc ?_); (case sc => rfl))
  | (with_reducible refine w_ret ?_) | (with_reducible refine w_next ?_) | (with_reducible refine w_ifs ?_) | (with_reducible refine w_ifx ?_) | (with_reducible refine w_test ?_) | (with_reducible refine w_tB ?_) | (with_reducible refine w_bl ?_)
  | ((with_reducible refine' w_ixL ?ixh ?ixa ?_); (case ixh => first | exact SqL.of (by assumption)); (case ixa => first | rfl | skip)) | ((with_reducible refine' w_ixT ?ixh ?ixa ?_); (case ixh => first | exact SqT.of (by assumption)); (case ixa => first | rfl | skip))
  | ((with_reducible refine' w_fld ?_)) | ((with_reducible refine' fld ?fh ?fc ?fn ?fl ?_); (case fh => assumption); (case fc => assumption); (case fn => assumption); (case fl => rfl)) | (with_reducible refine w_sfld ?_)
  | (with_reducible refine Or.inl ⟨_, rfl, ?_⟩) | (with_reducible refine w_gsub ?_) | (with_reducible refine w_andV ?_) | (with_reducible refine w_orV ?_)
  | (with_reducible refine w_nil ?_) | (with_reducible refine w_cons ?_) | (with_reducible refine w_tup ?_) | (with_reducible refine w_lst ?_) | (with_reducible refine w_and2 ?_) | (with_reducible refine w_or2 ?_) | (with_reducible refine w_not ?_) | (with_reducible refine w_cb ?_) | (with_reducible refine w_call ?_) | (with_reducible refine w_par ?_) | (with_reducible refine w_pnil ?_) | (with_reducible refine w_pcons ?_) | (with_reducible refine w_dput ?_) | (with_reducible refine w_dget ?_) | (with_reducible refine w_for ?_) | (with_reducible refine w_itup ?_) | (with_reducible refine w_ilist ?_) | (with_reducible refine w_irng ?_) | (with_reducible refine w_meth ?_) | (with_reducible refine w_make ?_) | (with_reducible refine w_makeK ?_) | (with_reducible refine w_methK ?_) | ((with_reducible refine' mth ?mh ?ml ?_); (case mh => assumption); (case ml => rfl)) | (with_reducible refine w_drop ?_))
local macro_rules | `(tactic| walk_at "go") => `(tactic| ((repeat (walk_at "1")); try dsimp only))
structure B8 (mg : Str → Option Value) : Prop extends Bi mg where
  g_zip : mg "zip" = none
  g_isinstance : mg "isinstance" = none
inductive OvL (H : Hp) : List V → List PyData → Prop
  | nil : OvL H [] []
  | cons {x : V} {xs : List V} {d : PyData} {ds : List PyData} : Ov H x d → OvL H xs ds → OvL H (x :: xs) (d :: ds)
theorem OvL.at {H : Hp} : ∀ {xs : List V} {ds : List PyData} {i : Nat}, OvL H xs ds → i < xs.length → ∃ x d, xs[i]? = some x ∧ d ∈ ds ∧ Ov H x d
  | _, _, 0, .cons h _, _ => ⟨_, _, rfl, List.mem_cons_self, h⟩
  | _, _, i + 1, .cons _ t, h => by
    obtain ⟨x, d, e, m, o⟩ := t.at (i := i) (Nat.lt_of_succ_lt_succ h)
    exact ⟨x, d, e, List.mem_cons_of_mem _ m, o⟩
theorem oS {H : Hp} (z : Str) : Ov H (.str z) (.str z) := .inr (.inr (.inr (.inl ⟨z, rfl, rfl⟩)))
theorem oI {H : Hp} (z : Int) : Ov H (.int z) (.int z) := .inr (.inr (.inl ⟨z, rfl, rfl⟩))
theorem oR {H : Hp} {a : Addr} {o : HO} {d : PyData} (h : H a = some o) (k : OvO o d) : Ov H (.ref a) d := .inr (.inr (.inr (.inr ⟨a, o, rfl, h, k⟩)))
section
variable {P : Program} {w : World} {K : PySem.W.Frag} {mg : Str → Option Value} {base : Heap} {C : Addr} {mc : Value}
theorem ok_odd (D : DefAt K mg "_law_odd" s__law_odd ["_law_pen_here"]) (c_law_draw : Cal P w K mg base 1 "_law_draw" spDraw) : Cal P w K mg base 2 "_law_odd" spOdd := by
  refine D.cal sc__law_odd (fun vs H Q E h => ?_) (fun f cdv A outer s H vs Q E rm gd h => ?_)
  · obtain ⟨p, l, cells, n, rfl, _⟩ := h
    rfl
  · obtain ⟨p, l, cells, n, rfl, pen, hn, q⟩ := h
    refine ⟨_, (pss_cons (ps_set (i := 1) sc__law_odd.nd rfl (Or.inl rfl) (pe_lst (pa_cons pe_str (pa_cons pe_str (pa_cons pe_str (pa_cons pe_str (pa_cons pe_str (pa_cons pe_str (pa_cons pe_str (pa_cons pe_str (pa_cons pe_str (pa_cons pe_str (pa_cons pe_str (pa_cons pe_str pa_nil))))))))))))))
    (pss_cons (ps_set (i := 1) sc__law_odd.nd rfl (Or.inl rfl) (pe_op op_cat (pv 1) (pe_lst (pa_cons pe_str (pa_cons pe_str (pa_cons pe_str (pa_cons pe_str (pa_cons pe_str (pa_cons pe_str (pa_cons pe_str (pa_cons pe_non (pa_cons pe_bl (pa_cons pe_int (pa_cons pe_int (pa_cons (pe_tup pa_nil) (pa_cons (pe_tup (pa_cons pe_str pa_nil)) (pa_cons (pe_lst (pa_cons pe_str pa_nil)) pa_nil)))))))))))))))))
    (pss_one (ps_ret (pe_ix ix_list (pe_op op_cat (pv 1) (pe_lst (pa_cons pe_dnewK (pa_cons (pe_op op_pow pe_int pe_int) (pa_cons pe_str pa_nil))))) (pc c_law_draw rm (by decide) gd rfl (pa_cons (pv 0) (pa_cons pe_int pa_nil))) (fun _ _ => rfl)))))), ?_⟩
    walk_at "go"
    refine new (show 12 ≤ sizeLine by decide) fun t1 H1 n1 h1 s1 => ?_
    walk_at "go"
    refine new (show 0 ≤ sizeLine by decide) fun t2 H2 n2 h2 s2 => ?_
    walk_at "go"
    refine new (show 1 ≤ sizeLine by decide) fun t3 H3 n3 h3 s3 => ?_
    walk_at "go"
    refine new (show 1 ≤ sizeLine by decide) fun t4 H4 n4 h4 s4 => ?_
    walk_at "go"
    refine new (show 14 ≤ sizeLine by decide) fun t5 H5 n5 h5 s5 => ?_
    walk_at "go"
    have h15 := s5 _ _ (s4 _ _ (s3 _ _ (s2 _ _ h1)))
    refine w_cat h15 h5 rfl (show 26 ≤ sizeLine by decide) fun t6 H6 n6 h6 s6 => ?_
    walk_at "go"
    refine fun t7 n7 => ?_
    have s7 : Same H6 (upd H6 t7 (.dK [])) := fun b o e => by
      rw [upd_ne (ne_of_none e n7)]
      exact e
    have h7 : upd H6 t7 (.dK []) t7 = some (.dK []) := upd_same
    generalize upd H6 t7 (.dK []) = H7 at s7 h7
    walk_at "go"
    refine w_pow ⟨by decide, by decide, by decide⟩ ?_
    walk_at "go"
    refine new (show 3 ≤ sizeLine by decide) fun t8 H8 n8 h8 s8 => ?_
    refine w_cat (s8 _ _ (s7 _ _ h6)) h8 rfl (show 29 ≤ sizeLine by decide) fun t9 H9 n9 h9 s9 => ?_
    walk_at "go"
    have sA : Same H H9 := fun b o e => s9 _ _ (s8 _ _ (s7 _ _ (s6 _ _ (s5 _ _ (s4 _ _ (s3 _ _ (s2 _ _ (s1 _ _ e))))))))
    refine ⟨p, l, cells, n, 29, rfl, pen.same sA, by omega, by decide, by decide, fun i H10 b0 b1 pen1 k1 => ?_⟩
    have pp : ∃ xs, H9 p = some (.lst xs) ∧ 2 ≤ xs.length := by
      obtain ⟨_, _, a, r, _, zp⟩ := pen.same sA
      exact ⟨_, zp, show 2 ≤ 3 by decide⟩
    obtain ⟨xs, hp, lx⟩ := pp
    have key : ∀ {t : Addr} {o : HO} {d : PyData}, H9 t = some o → OvO o d → H10 t = some o := fun {t o d} e k => by
      have z := Ov.but (H' := H10) hp lx k1 (oR e k)
      rcases z with ⟨z, _⟩ | ⟨_, z, _⟩ | ⟨_, z, _⟩ | ⟨_, z, _⟩ | ⟨a', o', z, e', k'⟩
      · cases z
      · cases z
      · cases z
      · cases z
      · exact k1 _ _ e fun y => by
          rw [y, hp] at e
          cases e
          rcases k with ⟨k, _⟩ | ⟨k, _⟩ | ⟨k, _⟩ | ⟨k, _⟩ <;> cases k
          simp at lx
    have up : ∀ {t : Addr} {o : HO}, H2 t = some o → H9 t = some o := fun e => s9 _ _ (s8 _ _ (s7 _ _ (s6 _ _ (s5 _ _ (s4 _ _ (s3 _ _ e))))))
    have o2 : OvO (.tup []) (.tuple []) := .inl ⟨rfl, rfl⟩
    have o3 : OvO (.tup [.str "keep"]) (.tuple [.str "keep"]) := .inr (.inl ⟨rfl, rfl⟩)
    have o4 : OvO (.lst [.str "none"]) (.list [.str "none"]) := .inr (.inr (.inl ⟨rfl, rfl⟩))
    have o7 : OvO (.dK []) (.dict []) := .inr (.inr (.inr ⟨rfl, rfl⟩))
    have g2 := key (up h2) o2
    have g3 := key (s9 _ _ (s8 _ _ (s7 _ _ (s6 _ _ (s5 _ _ (s4 _ _ h3)))))) o3
    have g4 := key (s9 _ _ (s8 _ _ (s7 _ _ (s6 _ _ (s5 _ _ h4))))) o4
    have g7 := key (s9 _ _ (s8 _ _ h7)) o7
    have all : OvL H10 [.str "keep", .str "take", .str "store", .str "clear1", .str "clear0", .str "set1", .str "flip1", .str "once", .str "none", .str "still", .str "raise", .str "end", .str "drift", .str "Keep", .str "keep ", .str " still", .str "", .str "clear", .str "set", .non, .bl true, .int 0, .int 1,
        .ref t2, .ref t3, .ref t4, .ref t7, .int (10 ^ (59 : Int).toNat), .str "keep take"] oddD :=
      .cons (oS _) (.cons (oS _) (.cons (oS _) (.cons (oS _) (.cons (oS _) (.cons (oS _) (.cons (oS _) (.cons (oS _) (.cons (oS _) (.cons (oS _) (.cons (oS _) (.cons (oS _) (.cons (oS _) (.cons (oS _) (.cons (oS _) (.cons (oS _) (.cons (oS _) (.cons (oS _) (.cons (oS _) (.cons (.inl ⟨rfl, rfl⟩) (.cons (.inr (.inl ⟨true, rfl, rfl⟩)) (.cons (oI _) (.cons (oI _)
        (.cons (oR g2 o2) (.cons (oR g3 o3) (.cons (oR g4 o4) (.cons (oR g7 o7) (.cons (oI _) (.cons (oS _) .nil))))))))))))))))))))))))))))
    have h9' : H10 t9 = _ := k1 _ _ h9 (fun y => by
      rw [y] at h9
      obtain ⟨_, _, a, r, _, zp⟩ := pen.same sA
      rw [h9] at zp
      cases zp)
    have hlt : i.toNat < 29 := by omega
    obtain ⟨x, d, ex, md, ov⟩ := all.at (i := i.toNat) hlt
    refine w_ixL (SqL.of h9') (at_of (j := i.toNat) (by omega) ex) ?_
    exact q x d H10 md ov pen1 fun b o e nb => k1 b o (sA b o e) nb
end
/-! ### due -/
theorem flat_strs : ∀ l : List Str, (l.map V.str).all flatV = true
  | [] => rfl
  | _ :: l => by
    rw [List.map_cons, List.all_cons, flat_strs l]
    rfl
theorem bad_no {l : List Str} {d : PyData} (h : ∀ z, d ≠ .str z) : bad l d = true := by
  unfold bad
  rw [Bool.not_eq_true']
  refine List.any_eq_false.mpr fun z _ => ?_
  cases d <;> first | exact absurd rfl (h _) | simp [PyData.eqv]
theorem bad_str {l : List Str} {z : Str} : (!inV (.str z) (l.map V.str)) = bad l (.str z) := by
  unfold bad inV
  rw [List.any_map]
  congr 1
theorem ov_cases {K : PySem.W.Frag} {H : Hp} {x : V} {d : PyData} (h : Ov H x d) : (∃ z, x = .str z ∧ d = .str z) ∨ ((∃ t, TyX K H x (.type t) ∧ kitB t "str" = some false) ∧ ∀ z, d ≠ .str z) := by
  rcases h with ⟨rfl, rfl⟩ | ⟨b, rfl, rfl⟩ | ⟨i, rfl, rfl⟩ | ⟨z, rfl, rfl⟩ | ⟨a, o, rfl, ha, h⟩
  · exact .inr ⟨⟨_, .base .non, by decide +kernel⟩, nofun⟩
  · exact .inr ⟨⟨_, .base (.bl b), by decide +kernel⟩, nofun⟩
  · exact .inr ⟨⟨_, .base (.int i), by decide +kernel⟩, nofun⟩
  · exact .inl ⟨z, rfl, rfl⟩
  · rcases h with ⟨rfl, rfl⟩ | ⟨rfl, rfl⟩ | ⟨rfl, rfl⟩ | ⟨rfl, rfl⟩
    · exact .inr ⟨⟨_, .base (.tup ha), by decide +kernel⟩, nofun⟩
    · exact .inr ⟨⟨_, .base (.tup ha), by decide +kernel⟩, nofun⟩
    · exact .inr ⟨⟨_, .base (.lst ha), by decide +kernel⟩, nofun⟩
    · exact .inr ⟨⟨_, .base (.dK ha), by decide +kernel⟩, nofun⟩
theorem bad_word {H : Hp} {x : V} {d : PyData} {l : List Str} (h : Ov H x d) (b : bad l d = false) : ∃ r ∈ l, x = .str r := by
  rcases ov_cases (K := []) h with ⟨z, rfl, rfl⟩ | ⟨_, n⟩
  · rw [← bad_str, Bool.not_eq_false'] at b
    obtain ⟨y, hy, e⟩ := List.any_eq_true.mp b
    obtain ⟨r, hr, rfl⟩ := List.mem_map.mp hy
    have e2 : r = z := eq_of_beq e
    exact ⟨r, hr, by rw [e2]⟩
  · rw [bad_no n] at b
    cases b
theorem okD_parts {d : PyData} (h : okD d = true) : (PyData.list [.str "kind", d]).showable = true ∧ (PyData.list [.str "kind", d]).depth ≤ 40 ∧ (PyData.list [.str "kind", d]).shown.length ≤ sizeLine ∧ (d.canLay0 = true ∨ d = .dict []) ∧ d.depth ≤ 40 := by
  unfold okD at h
  rw [Bool.and_eq_true, Bool.and_eq_true, Bool.and_eq_true, Bool.and_eq_true, Bool.or_eq_true] at h
  obtain ⟨⟨⟨⟨h1, h2⟩, h3⟩, h4⟩, h5⟩ := h
  refine ⟨h1, of_decide_eq_true h2, Nat.le_trans (of_decide_eq_true h3) (by decide), ?_, of_decide_eq_true h5⟩
  rcases h4 with h4 | h4
  · exact .inl h4
  · refine .inr ?_
    split at h4
    · rfl
    · cases h4
theorem join_ok : ∀ r ∈ RD, ∀ w ∈ WR, ∀ d ∈ DV, Txt.join " " [r, w, d] = Str.empty ++ r ++ " " ++ w ++ " " ++ d := by decide +kernel
def okT (r w d : Str) : Bool := (PyData.list [.str "told", .str (Str.empty ++ r ++ " " ++ w ++ " " ++ d)]).showable && decide ((PyData.list [.str "told", .str (Str.empty ++ r ++ " " ++ w ++ " " ++ d)]).depth ≤ 40) && decide ((PyData.list [.str "told", .str (Str.empty ++ r ++ " " ++ w ++ " " ++ d)]).shown.length ≤ 1000)
theorem okT_all : ∀ r ∈ RD, ∀ w ∈ WR, ∀ d ∈ DV, okT r w d = true := by decide +kernel
def duD (d : PyData) : Str := (PyData.list [.str "kind", d]).shown
def duT (r w d : Str) : Str := (PyData.list [.str "told", .str (Str.empty ++ r ++ " " ++ w ++ " " ++ d)]).shown
def spDue : Sp := fun vs H Q _ => ∃ (ws : Addr) (a b c : V) (da db dc : PyData), vs = [.ref ws] ∧ H ws = some (.lst [a, b, c]) ∧ Ov H a da ∧ Ov H b db ∧ Ov H c dc ∧ okD da = true ∧ okD db = true ∧ okD dc = true ∧
  (bad RD da = true → ∀ H', Same H H' → Q (.str (duD da)) H') ∧ (bad RD da = false → bad WR db = true → ∀ H', Same H H' → Q (.str (duD db)) H') ∧
  (bad RD da = false → bad WR db = false → bad DV dc = true → ∀ H', Same H H' → Q (.str (duD dc)) H') ∧
  (bad RD da = false → bad WR db = false → bad DV dc = false → ∀ r w d, r ∈ RD → w ∈ WR → d ∈ DV → a = .str r → b = .str w → c = .str d → ∀ H', Same H H' → Q (.str (duT r w d)) H')
section
variable {P : Program} {w : World} {K : PySem.W.Frag} {mg : Str → Option Value} {base : Heap} {C : Addr} {mc : Value}
theorem ok_due (D : DefAt K mg "_law_due" s__law_due ["_law_words_here"]) (B : B8 mg) : Cal P w K mg base 1 "_law_due" spDue := by
  refine D.cal sc__law_due (fun vs H Q E h => ?_) (fun f cdv A outer s H vs Q E rm gd h => ?_)
  · obtain ⟨ws, a, b, c, da, db, dc, rfl, _⟩ := h
    rfl
  · obtain ⟨ws, a, b, c, da, db, dc, rfl, hw, oa, ob, oc, ka, kb, kc, q1, q2, q3, q⟩ := h
    refine ⟨_, (pss_cons (ps_set (i := 1) sc__law_due.nd rfl (Or.inl rfl) (pe_lst (pa_cons (pe_lst (pa_cons pe_str (pa_cons pe_str pa_nil))) (pa_cons (pe_lst (pa_cons pe_str (pa_cons pe_str (pa_cons pe_str (pa_cons pe_str (pa_cons pe_str (pa_cons pe_str (pa_cons pe_str pa_nil)))))))) pa_nil))))
    (pss_cons (ps_expr (pe_bm PySem.F.plainAttrs_list PySem.F.slot_list_append PySem.F.type_list_append mt_append (pv 1) (pa_cons (pe_lst (pa_cons pe_str (pa_cons pe_str (pa_cons pe_str (pa_cons pe_str pa_nil))))) pa_nil)))
    (pss_cons (ps_for PassesOwn.never rfl (pi_zip rfl B.g_zip (pa_cons (pv 0) (pa_cons (pv 1) pa_nil))) (pg_tup rfl (pgs_cons (pg_name (i := 2) sc__law_due.nd rfl (Or.inl rfl)) (pgs_cons (pg_name (i := 3) sc__law_due.nd rfl (Or.inl rfl)) pgs_nil)))
      (pss_one (ps_if (PW.pt (pw_or (pt_not (pt_val (pe_callB call_isi (by rfl) B.g_isinstance (by decide +kernel) (pa_cons (pv 2) (pa_cons (pe_bltn (v := .ty "str") rfl B.g_str (by decide +kernel) rfl) pa_nil))))) (pw_or1 (pt_cmpR op_notIn_seq (pv 2) (pv 3) rfl))))
        (pss_one (ps_ret (pe_callB (call_reprA rm gd) (by rfl) B.g_repr (by decide +kernel) (pa_cons (pe_lstB (pa_cons pe_str (pa_cons (pv 2) pa_nil))) pa_nil))))
        pss_nil)))
    (pss_one (ps_ret (pe_callB (call_reprA rm gd) (by rfl) B.g_repr (by decide +kernel) (pa_cons (pe_lst (pa_cons pe_str (pa_cons (pe_join pe_str (pv 0)) pa_nil))) pa_nil))))))), ?_⟩
    walk_at "go"
    refine new (show 2 ≤ sizeLine by decide) fun t1 H1 n1 h1 s1 => ?_
    walk_at "go"
    refine new (show 7 ≤ sizeLine by decide) fun t2 H2 n2 h2 s2 => ?_
    walk_at "go"
    refine new (show 2 ≤ sizeLine by decide) fun t3 H3 n3 h3 s3 => ?_
    walk_at "go"
    refine w_bm ?_
    walk_at "go"
    refine ⟨ty_list h3, ?_⟩
    walk_at "go"
    refine new (show 4 ≤ sizeLine by decide) fun t4 H4 n4 h4 s4 => ?_
    walk_at "go"
    refine w_app (s4 _ _ h3) (show 2 < sizeLine by decide) rfl fun H5 h5 e5 => ?_
    walk_at "go"
    have s5 : Same H H5 := fun b o e => by
      have z := s2 _ _ (s1 _ _ e)
      rw [e5 b (ne_of_none z n3)]
      exact s4 _ _ (s3 _ _ z)
    have g1 : H5 t1 = some (.lst (RD.map V.str)) := by
      have z := s2 _ _ h1
      rw [e5 t1 (ne_of_none z n3)]
      exact s4 _ _ (s3 _ _ z)
    have g2 : H5 t2 = some (.lst (WR.map V.str)) := by
      rw [e5 t2 (ne_of_none h2 n3)]
      exact s4 _ _ (s3 _ _ h2)
    have g4 : H5 t4 = some (.lst (DV.map V.str)) := by
      rw [e5 t4 (fun z => by rw [z, h3] at n4; cases n4)]
      exact h4
    refine w_cons (w_var rfl (w_cons (w_var rfl (w_nil ⟨ws, t3, [a, b, c], [.ref t1, .ref t2, .ref t4], rfl, SqL.of (s5 _ _ hw), SqL.of h5, RZ.for_zipL (xs := [a, b, c]) (ys := [.ref t1, .ref t2, .ref t4]) rfl
      (fun i σ H' => (∃ v2 v3, σ = [some (.ref ws), some (.ref t3), v2, v3]) ∧ Same H5 H' ∧ (1 ≤ i → bad RD da = false) ∧ (2 ≤ i → bad WR db = false) ∧ (3 ≤ i → bad DV dc = false))
      ⟨⟨none, none, rfl⟩, Same.refl _, nofun, nofun, nofun⟩ (fun i σ H' ⟨_, z, _⟩ => ⟨SqL.of (z _ _ (s5 _ _ hw)), SqL.of (z _ _ h5)⟩) ?_ ?_⟩))))
    · rintro i x y T σ H6 hx hy ⟨⟨v2, v3, rfl⟩, z, b1, b2, b3⟩ nT
      have s6 : Same H H6 := fun b o e => z _ _ (s5 _ _ e)
      have uni : ∃ d l kl, Ov H6 x d ∧ okD d = true ∧ y = .ref kl ∧ H6 kl = some (.lst (l.map V.str)) ∧ (bad l d = true → ∀ H', Same H H' → Q (.str (duD d)) H') ∧
          (bad l d = false → (1 ≤ i + 1 → bad RD da = false) ∧ (2 ≤ i + 1 → bad WR db = false) ∧ (3 ≤ i + 1 → bad DV dc = false)) := by
        match i, hx, hy with
        | 0, hx, hy =>
          cases hx
          cases hy
          exact ⟨da, RD, t1, oa.same s6, ka, rfl, z _ _ g1, q1, fun h => ⟨fun _ => h, fun y => absurd y (by decide), fun y => absurd y (by decide)⟩⟩
        | 1, hx, hy =>
          cases hx
          cases hy
          have p1 := b1 (by decide)
          exact ⟨db, WR, t2, ob.same s6, kb, rfl, z _ _ g2, q2 p1, fun h => ⟨fun _ => p1, fun _ => h, fun y => absurd y (by decide)⟩⟩
        | 2, hx, hy =>
          cases hx
          cases hy
          have p1 := b1 (by decide)
          have p2 := b2 (by decide)
          exact ⟨dc, DV, t4, oc.same s6, kc, rfl, z _ _ g4, q3 p1 p2, fun h => ⟨fun _ => p1, fun _ => p2, fun _ => h⟩⟩
      obtain ⟨d, l, kl, ov, kd, rfl, hkl, qb, nx⟩ := uni
      clear q1 q2 q3 q hx hy
      have s7 : Same H6 (upd H6 T (.tup [x, .ref kl])) := fun b o e => by
        rw [upd_ne (ne_of_none e nT)]
        exact e
      refine ⟨T, [x, .ref kl], rfl, SqT.of upd_same, rfl, _, _, rfl, _, _, rfl, rfl, ?_⟩
      generalize upd H6 T (.tup [x, .ref kl]) = H7 at s7
      walk_at "go"
      obtain ⟨k1, k2, k3, _, _⟩ := okD_parts kd
      have ret : ∀ {H8 : Hp}, Same H7 H8 → bad l d = true → ∀ {σ : L2.St}, σ[2]? = some (some x) → tCB rReprA (tCons (tLstB (tCons (tC (.str "kind")) (tCons (tVar 2) tNil))) tNil) σ H8 Q := fun {H8} z8 hb σ hσ => by
        refine w_cb (w_cons (w_cons (w_c (w_cons (w_var hσ (w_nil ?_))))))
        refine newB (show 2 ≤ sizeLine by decide) fun p H9 np mp hp s9 => ?_
        have zz : Same H6 H9 := fun b o e => s9 _ _ (z8 _ _ (s7 _ _ e))
        refine w_nil ⟨.ref p, .list [.str "kind", d], rfl, Da.lst hp (.cons (.str _) (.cons (ov.same zz).da .nil)), fun y => Dn.two hp mp ((ov.same zz).dn (by simpa [PyData.hasDict, PyData.hasDictAll] using y)), k1, k2, k3, qb hb _ fun b o e => zz _ _ (s6 _ _ e)⟩
      rcases ov_cases (K := K) (ov.same s7) with ⟨z', rfl, rfl⟩ | ⟨⟨t, ty, kt⟩, no⟩
      · refine ⟨.str z', .ty "str", .type "str", .type "str", true, rfl, .ty _, .base (.str _), kit_ty (by decide +kernel), true, rfl, ?_⟩
        refine iteF ?_
        walk_at "go"
        refine w_in (.inl (SqL.of (s7 _ _ hkl))) rfl (flat_strs _) ?_
        walk_at "go"
        rw [show (if true = true then !inV (V.str z') (List.map V.str l) else inV (V.str z') (List.map V.str l)) = bad l (.str z') from (if_pos rfl).trans bad_str]
        refine ite2 (fun h => ?_) (fun h => ?_)
        · refine w_ret ?_
          exact ret (Same.refl _) h rfl
        exact ⟨⟨_, _, rfl⟩, fun b o e => s7 _ _ (z _ _ e), nx (Bool.eq_false_iff.mpr h)⟩
      · refine ⟨x, .ty "str", .type t, .type "str", false, rfl, .ty _, ty, kit_ty kt, false, rfl, ?_⟩
        refine iteT (iteT ?_)
        refine w_ret ?_
        exact ret (Same.refl _) (bad_no no) rfl
    · rintro σ H6 ⟨⟨v2, v3, rfl⟩, z, b1, b2, b3⟩
      have s6 : Same H H6 := fun b o e => z _ _ (s5 _ _ e)
      have p1 := b1 (show 1 ≤ 3 by decide)
      have p2 := b2 (show 2 ≤ 3 by decide)
      have p3 := b3 (show 3 ≤ 3 by decide)
      obtain ⟨r, hr, rfl⟩ := bad_word oa p1
      obtain ⟨wr, hwr, rfl⟩ := bad_word ob p2
      obtain ⟨d, hd, rfl⟩ := bad_word oc p3
      have q := q p1 p2 p3 r wr d hr hwr hd rfl rfl rfl
      walk_at "go"
      refine ⟨⟨_, rfl⟩, _, rfl, " ", ws, [r, wr, d], rfl, rfl, .inl (SqL.of (s6 _ _ hw)), ?_, ?_⟩
      · have l1 := sh_rd r hr
        have l2 := sh_wr wr hwr
        have l3 := sh_dv d hd
        show r.length + (wr.length + (d.length + 0)) + 3 * 1 ≤ 16777216
        omega
      rw [join_ok r hr wr hwr d hd]
      have k := okT_all r hr wr hwr d hd
      unfold okT at k
      simp only [Bool.and_eq_true, decide_eq_true_eq] at k
      obtain ⟨⟨k1, k2⟩, k3⟩ := k
      walk_at "go"
      refine new (show 2 ≤ sizeLine by decide) fun p H7 np hp s7 => ?_
      walk_at "go"
      exact ⟨.ref p, _, rfl, Da.lst hp (.cons (.str _) (.cons (.str _) .nil)), fun y => (by simp [PyData.hasDict, PyData.hasDictAll] at y), k1, k2, Nat.le_trans k3 (by decide), q H7 fun b o e => s7 _ _ (s6 _ _ e)⟩
end
end Law

set_option Elab.async false
set_option linter.all false
set_option maxRecDepth 100000
set_option maxHeartbeats 4000000
namespace Law
open PySem PySem.Spec PySem.Calls PyProof.Rows L2 KG LamX
local macro_rules | `(tactic| walk_at "1") => `(tactic| first
  | (with_reducible refine w_var rfl ?_) | (with_reducible refine w_c ?_) | (with_reducible refine w_seq ?_) | (with_reducible refine w_asg ?_) | (with_reducible refine w_gname ?_) | (with_reducible refine w_op ?_) | (with_reducible refine w_un ?_)
  | (with_reducible refine w_add ?_) | (with_reducible refine w_sub ?_) | ((with_reducible refine' w_mod ?mo ?_); (case mo => first | assumption | decide | omega)) | (with_reducible refine w_and ?_) | (with_reducible refine w_or ?_) | (with_reducible refine w_xor ?_)
  | (with_reducible refine w_gt ?_) | (with_reducible refine w_lt ?_) | (with_reducible refine w_ge ?_) | (with_reducible refine w_le ?_) | ((with_reducible refine' w_eq ?sc ?_); (case sc => rfl)) | ((with_reducible refine' w_ne ?sc ?_); (case sc => rfl))
  | (with_reducible refine w_ret ?_) | (with_reducible refine w_next ?_) | (with_reducible refine w_ifs ?_) | (with_reducible refine w_ifx ?_) | (with_reducible refine w_test ?_) | (with_reducible refine w_tB ?_) | (with_reducible refine w_bl ?_)
  | ((with_reducible refine' w_ixL ?ixh ?ixa ?_); (case ixh => first | exact SqL.of (by assumption)); (case ixa => first | rfl | skip)) | ((with_reducible refine' w_ixT ?ixh ?ixa ?_); (case ixh => first | exact SqT.of (by assumption)); (case ixa => first | rfl | skip))
  | ((with_reducible refine' w_fld ?_)) | ((with_reducible refine' fld ?fh ?fc ?fn ?fl ?_); (case fh => assumption); (case fc => assumption); (case fn => assumption); (case fl => rfl)) | (with_reducible refine w_sfld ?_)
  | (with_reducible refine Or.inl ⟨_, rfl, ?_⟩) | (with_reducible refine w_gsub ?_) | (with_reducible refine w_andV ?_) | (with_reducible refine w_orV ?_)
  | (with_reducible refine w_nil ?_) | (with_reducible refine w_cons ?_) | (with_reducible refine w_tup ?_) | (with_reducible refine w_lst ?_) | (with_reducible refine w_and2 ?_) | (with_reducible refine w_or2 ?_) | (with_reducible refine w_not ?_) | (with_reducible refine w_cb ?_) | (with_reducible refine w_call ?_) | (with_reducible refine w_par ?_) | (with_reducible refine w_pnil ?_) | (with_reducible refine w_pcons ?_) | (with_reducible refine w_dput ?_) | (with_reducible refine w_dget ?_) | (with_reducible refine w_for ?_) | (with_reducible refine w_itup ?_) | (with_reducible refine w_ilist ?_) | (with_reducible refine w_irng ?_) | (with_reducible refine w_meth ?_) | (with_reducible refine w_make ?_) | (with_reducible refine w_makeK ?_) | (with_reducible refine w_methK ?_) | ((with_reducible refine' mth ?mh ?ml ?_); (case mh => assumption); (case ml => rfl)) | (with_reducible refine w_drop ?_))
local macro_rules | `(tactic| walk_at "go") => `(tactic| ((repeat (walk_at "1")); try dsimp only))
def spLaw (K : PySem.W.Frag) (Pt : Addr) : Sp := fun vs H Q _ => ∃ (a : Addr) (ns : List Int), vs = [.ref a] ∧ SqL K H a (ns.map V.int) ∧ ns.length ≤ 63 ∧ H Pt = some (.tbl #[]) ∧ ∀ H', Q (.bl true) H'
theorem pass_no {X : Cx} : Passes (L2.CX X.prog X.w) X (fun _ _ _ => False) := fun _ _ _ _ _ _ _ h => by
  obtain ⟨_, _, _, _, _, _, _, _, _, _, _, _, z⟩ := h
  exact z.elim
theorem tabs_but {T : List (Addr × Str)} {H H' : Hp} {q : Addr} {xs : List V} (hq : H q = some (.lst xs)) (e : ∀ b o, H b = some o → b ≠ q → H' b = some o) (t : Tabs T H) : Tabs T H' := fun pr hp => by
  obtain ⟨ps, h1, h2, h3⟩ := t pr hp
  refine ⟨ps, e _ _ h1 (fun z => ?_), h2, fun pos cv hc => ?_⟩
  · rw [z, hq] at h1
    cases h1
  · obtain ⟨c, e1, e2⟩ := h3 pos cv hc
    refine ⟨c, e1, e _ _ e2 fun z => ?_⟩
    rw [z, hq] at e2
    unfold CodeO at e2
    cases e2
theorem PenC.mono {n m : Nat} {p l : Addr} {cells : List Int} {H : Hp} (h : PenC n p l cells H) (k : n ≤ m) : PenC m p l cells H := by
  obtain ⟨a, b, c, d, e, f⟩ := h
  exact ⟨a, b, c, d, Nat.le_trans e k, f⟩
/-- the state of the law's walk -/
structure Ls (n : Nat) (p l : Addr) (cells : List Int) (T : List (Addr × Str)) (kl : Addr) (ts : List Addr) (H : Hp) : Prop where
  pen : PenC n p l cells H
  tab : Tabs T H
  kin : H kl = some (.lst (ts.map V.ref))
  ws : ∀ t ∈ ts, ∃ r w d, r ∈ RD ∧ w ∈ WR ∧ d ∈ DV ∧ H t = some (.tup [.str r, .str w, .str d])
  nep : kl ≠ p
  nel : kl ≠ l
section
variable {n m : Nat} {p l kl : Addr} {cells : List Int} {T : List (Addr × Str)} {ts : List Addr} {H H' : Hp}
theorem Ls.at_p (h : Ls n p l cells T kl ts H) : ∃ xs, H p = some (.lst xs) ∧ 2 ≤ xs.length := by
  obtain ⟨_, _, a, r, _, z⟩ := h.pen
  exact ⟨_, z, show 2 ≤ 3 by decide⟩
theorem Ls.mono (h : Ls n p l cells T kl ts H) (k : n ≤ m) : Ls m p l cells T kl ts H := ⟨h.pen.mono k, h.tab, h.kin, h.ws, h.nep, h.nel⟩
theorem Ls.same (h : Ls n p l cells T kl ts H) (s : Same H H') : Ls n p l cells T kl ts H' :=
  ⟨h.pen.same s, h.tab.ext s, s _ _ h.kin, fun t ht => by obtain ⟨r, w, d, a, b, c, e⟩ := h.ws t ht; exact ⟨r, w, d, a, b, c, s _ _ e⟩, h.nep, h.nel⟩
theorem Ls.kp (h : Ls n p l cells T kl ts H) (pen : PenC m p l cells H') (k : Kp p H H') : Ls m p l cells T kl ts H' := by
  obtain ⟨xs, hp, _⟩ := h.at_p
  refine ⟨pen, tabs_but hp k h.tab, k _ _ h.kin h.nep, fun t ht => ?_, h.nep, h.nel⟩
  obtain ⟨r, w, d, a, b, c, e⟩ := h.ws t ht
  refine ⟨r, w, d, a, b, c, k _ _ e fun z => ?_⟩
  rw [z, hp] at e
  cases e
theorem Ls.ext (h : Ls n p l cells T kl ts H) (e : ExtN H H') (t : Tabs T H') : Ls n p l cells T kl ts H' := by
  obtain ⟨a, b, c, d, f, g⟩ := h.pen
  exact ⟨⟨a, e _ _ b nofun, c, d, f, e _ _ g nofun⟩, t, e _ _ h.kin nofun, fun t ht => by obtain ⟨r, w, d, a, b, c, z⟩ := h.ws t ht; exact ⟨r, w, d, a, b, c, e _ _ z nofun⟩, h.nep, h.nel⟩
theorem Ls.upd {q : Addr} {xs : List V} (h : Ls n p l cells T kl ts H) (hq : H q = some (.lst xs)) (n1 : q ≠ p) (n2 : q ≠ l) (n3 : q ≠ kl) (e : ∀ b, b ≠ q → H' b = H b) : Ls n p l cells T kl ts H' := by
  obtain ⟨a, b, c, d, f, g⟩ := h.pen
  refine ⟨⟨a, (e _ n2.symm).trans b, c, d, f, (e _ n1.symm).trans g⟩, tabs_but hq (fun b o z nb => (e b nb).trans z) h.tab, (e _ n3.symm).trans h.kin, fun t ht => ?_, h.nep, h.nel⟩
  obtain ⟨r, w, d, a, b, c, z⟩ := h.ws t ht
  refine ⟨r, w, d, a, b, c, (e t fun y => ?_).trans z⟩
  rw [y, hq] at z
  cases z
theorem Ls.app {t : Addr} {r w d : Str} (h : Ls n p l cells T kl ts H) (hr : r ∈ RD) (hw : w ∈ WR) (hd : d ∈ DV) (ht : H t = some (.tup [.str r, .str w, .str d])) (h' : H' kl = some (.lst (ts.map V.ref ++ [.ref t]))) (e : ∀ b, b ≠ kl → H' b = H b) : Ls n p l cells T kl (ts ++ [t]) H' := by
  obtain ⟨a, b, c, d', f, g⟩ := h.pen
  have nt : ∀ {t : Addr} {xs : List V}, H t = some (.tup xs) → t ≠ kl := fun z y => by
    rw [y, h.kin] at z
    cases z
  refine ⟨⟨a, (e _ h.nel.symm).trans b, c, d', f, (e _ h.nep.symm).trans g⟩, tabs_but h.kin (fun b o z nb => (e b nb).trans z) h.tab, by rw [h', List.map_append]; rfl, fun u hu => ?_, h.nep, h.nel⟩
  rcases List.mem_append.mp hu with hu | hu
  · obtain ⟨r, w, d, a, b, c, z⟩ := h.ws u hu
    exact ⟨r, w, d, a, b, c, (e u (nt z)).trans z⟩
  · rw [List.mem_singleton.mp hu]
    exact ⟨r, w, d, hr, hw, hd, (e t (nt ht)).trans ht⟩
theorem Ov.kp {x : V} {d : PyData} (h : Ls n p l cells T kl ts H) (k : Kp p H H') (o : Ov H x d) : Ov H' x d := by
  obtain ⟨xs, hp, lx⟩ := h.at_p
  exact o.but hp lx k
theorem Ov.ext {x : V} {d : PyData} (e : ExtN H H') (h : Ov H x d) : Ov H' x d := by
  rcases h with h | h | h | h | ⟨a, o, z, ha, h⟩
  · exact .inl h
  · exact .inr (.inl h)
  · exact .inr (.inr (.inl h))
  · exact .inr (.inr (.inr (.inl h)))
  · refine .inr (.inr (.inr (.inr ⟨a, o, z, e _ _ ha fun ps y => ?_, h⟩)))
    rw [y] at h
    rcases h with ⟨h, _⟩ | ⟨h, _⟩ | ⟨h, _⟩ | ⟨h, _⟩ <;> cases h
end
/-- three values, drawn or words -/
def Tri (sl : Addr) (a b c : V) (da db dc : PyData) (H : Hp) : Prop := H sl = some (.lst [a, b, c]) ∧ (Ov H a da ∧ okD da = true) ∧ (Ov H b db ∧ okD db = true) ∧ (Ov H c dc ∧ okD dc = true)
theorem word_ok : (∀ z ∈ RD, okD (.str z) = true) ∧ (∀ z ∈ WR, okD (.str z) = true) ∧ (∀ z ∈ DV, okD (.str z) = true) := by decide +kernel
def strOf : V → Str
  | .str z => z
  | _ => ""
def theText (a b c : V) (da db dc : PyData) : Str := if bad RD da = true then duD da else if bad WR db = true then duD db else if bad DV dc = true then duD dc else duT (strOf a) (strOf b) (strOf c)
theorem in_mem {x : Str} : ∀ {l : List Str}, x ∈ l → inV (.str x) (l.map V.str) = true
  | [], h => absurd h List.not_mem_nil
  | y :: l, h => by
    show (eqV (.str y) (.str x) || (l.map V.str).any fun z => eqV z (.str x)) = true
    rcases List.mem_cons.mp h with e | e
    · subst e
      rw [show eqV (V.str x) (V.str x) = true from beq_self_eq_true x, Bool.true_or]
    · have := in_mem e
      unfold inV at this
      rw [this, Bool.or_true]
theorem bad_in {x : Str} {l : List Str} (h : x ∈ l) : bad l (.str x) = false := by rw [← bad_str, in_mem h]; rfl
theorem asked_str {H : Hp} {z : Str} (h : okD (.str z) = true) : Asked H (.str z) (.str z) := ⟨fun H' _ => Da.str z, (okD_parts h).2.2.2.1, (okD_parts h).2.2.2.2⟩
/-- a kind of right words is made -/
theorem mk_by {C cK x dx : Addr} {r w d : Str} {H : Hp} {Q : VK} {E : XK} (hx : H x = some (.ins C dx [])) (hr : r ∈ RD) (hw : w ∈ WR) (hd : d ∈ DV) (q : ∀ H', KindAt C H' x r w d → (∀ b o, H b = some o → b ≠ x → H' b = some o) → Q .non H') :
    spIK C cK [.ref x, .str r, .str w, .str d] H Q E := by
  refine ⟨x, dx, _, _, _, .str r, .str w, .str d, rfl, hx, asked_str (word_ok.1 r hr), asked_str (word_ok.2.1 w hw), asked_str (word_ok.2.2 d hd), fun h => ?_, fun _ h => ?_, fun _ _ h => ?_, fun _ _ _ => ⟨r, w, d, rfl, rfl, rfl, q⟩⟩
  · rw [bad_in hr] at h; cases h
  · rw [bad_in hw] at h; cases h
  · rw [bad_in hd] at h; cases h
def twoD (b : Bool) : PyData := .list [.bool b, .bool (!b)]
theorem two_ok : ∀ b, (twoD b).showable = true ∧ (twoD b).depth ≤ 40 ∧ (twoD b).shown.length ≤ 1000 ∧ (twoD b).hasDict = false := by decide +kernel
theorem tup_eqv (r w d r' w' d' : Str) : PyData.eqv (.tuple [.str r, .str w, .str d]) (.tuple [.str r', .str w', .str d']) = (decide (r = r') && decide (w = w') && decide (d = d')) := by
  have e : ∀ a b : Str, (a == b) = decide (a = b) := fun a b => by
    by_cases h : a = b
    · subst h; rw [decide_eq_true rfl]; exact beq_self_eq_true a
    · rw [decide_eq_false h]; exact beq_eq_false_iff_ne.mpr h
  simp only [PyData.eqv, PyData.eqvAll, e, Bool.and_true, Bool.and_assoc]
theorem tup_shaped (r w d : Str) (h : okD (.str r) = true) (h2 : okD (.str w) = true) (h3 : okD (.str d) = true) : SeqAt.shaped (.tuple [.str r, .str w, .str d]) = true := by
  have l : ∀ {z : Str}, okD (.str z) = true → PyData.strOk z = true := fun {z} k => by
    rcases (okD_parts k).2.2.2.1 with y | y
    · simpa [PyData.canLay0] using y
    · cases y
  simp [SeqAt.shaped, PyData.canLay0, PyData.canLayAll0, PyData.depth, PyData.depthAll, l h, l h2, l h3]
theorem KindAt.same {C : Addr} {H H' : Hp} {k : Addr} {r w d : Str} (s : Same H H') (h : KindAt C H k r w d) : KindAt C H' k r w d := by
  obtain ⟨dx, st, a⟩ := h
  exact ⟨dx, st, s _ _ a⟩
theorem heard_by {ce : Nat → Addr} {tl : XK → Hp → VK → Prop} {H : Hp} {Q : VK} {text : Str} (hq : ∀ H2, Same H H2 → Q (.str text) H2)
    (h : ∀ (E' : XK) (Q' : VK), (∀ (i : Nat) (dd : Addr) (y : V) (e : PyData) (H' : Hp), i < 5 → Same H H' → H' dd = some (.xd [("value", y)]) → (∀ H2, Same H' H2 → Da H2 y e) → (e.hasDict = true → ∀ H2, Same H' H2 → Dn H2 y e) → (PyData.list [.str (ceT i), e]).showable = true → (PyData.list [.str (ceT i), e]).depth ≤ 40 → (PyData.list [.str (ceT i), e]).shown.length ≤ sizeLine →
        (PyData.list [.str (ceT i), e]).shown = text → E' (.ref (ce i)) (some dd) H') →
      (∀ (v : V) (e : PyData) (H' : Hp), Same H H' → (∀ H2, Same H' H2 → Da H2 v e) → e.hasDict = false → (PyData.list [.str "told", e]).showable = true → (PyData.list [.str "told", e]).depth ≤ 40 → (PyData.list [.str "told", e]).shown.length ≤ sizeLine → (PyData.list [.str "told", e]).shown = text → Q' v H') → tl E' H Q') : THeard ce tl H Q :=
  fun E' Q' hE hQ => h E' Q' (fun i dd y e H' hi s hd hy hn sh dp sz ht => hE _ _ _ ⟨i, dd, y, e, hi, rfl, rfl, hd, hy, hn, sh, dp, sz, fun H2 s2 => by rw [ht]; exact hq H2 (s.trans s2)⟩)
    (fun v e H' s hy hn sh dp sz ht => hQ _ _ ⟨e, hy, hn, sh, dp, sz, fun H2 s2 => by rw [ht]; exact hq H2 (s.trans s2)⟩)
theorem text_a {a b c : V} {da db dc : PyData} (h : bad RD da = true) : theText a b c da db dc = duD da := if_pos h
theorem text_b {a b c : V} {da db dc : PyData} (h1 : bad RD da = false) (h : bad WR db = true) : theText a b c da db dc = duD db := by
  unfold theText
  rw [if_neg (by rw [h1]; decide), if_pos h]
theorem text_c {a b c : V} {da db dc : PyData} (h1 : bad RD da = false) (h2 : bad WR db = false) (h : bad DV dc = true) : theText a b c da db dc = duD dc := by
  unfold theText
  rw [if_neg (by rw [h1]; decide), if_neg (by rw [h2]; decide), if_pos h]
theorem text_t {a b c : V} {da db dc : PyData} (h1 : bad RD da = false) (h2 : bad WR db = false) (h : bad DV dc = false) : theText a b c da db dc = duT (strOf a) (strOf b) (strOf c) := by
  unfold theText
  rw [if_neg (by rw [h1]; decide), if_neg (by rw [h2]; decide), if_neg (by rw [h]; decide)]
theorem due_by {ws : Addr} {a b c : V} {da db dc : PyData} {H : Hp} {Q : VK} {E : XK} (t : Tri ws a b c da db dc H) (hq : ∀ H', Same H H' → Q (.str (theText a b c da db dc)) H') : spDue [.ref ws] H Q E := by
  obtain ⟨h, ⟨oa, ka⟩, ⟨ob, kb⟩, ⟨oc, kc⟩⟩ := t
  refine ⟨ws, a, b, c, da, db, dc, rfl, h, oa, ob, oc, ka, kb, kc, fun h1 H' s => ?_, fun h1 h2 H' s => ?_, fun h1 h2 h3 H' s => ?_, fun h1 h2 h3 r w d hr hw hd ea eb ec H' s => ?_⟩
  · rw [← text_a (a := a) (b := b) (c := c) (db := db) (dc := dc) h1]; exact hq H' s
  · rw [← text_b (a := a) (b := b) (c := c) (dc := dc) h1 h2]; exact hq H' s
  · rw [← text_c (a := a) (b := b) (c := c) h1 h2 h3]; exact hq H' s
  · have z := hq H' s
    rw [text_t h1 h2 h3, ea, eb, ec] at z
    exact z
theorem Tri.same {sl : Addr} {a b c : V} {da db dc : PyData} {H H' : Hp} (t : Tri sl a b c da db dc H) (s : Same H H') : Tri sl a b c da db dc H' :=
  ⟨s _ _ t.1, ⟨t.2.1.1.same s, t.2.1.2⟩, ⟨t.2.2.1.1.same s, t.2.2.1.2⟩, ⟨t.2.2.2.1.same s, t.2.2.2.2⟩⟩
section
variable {P : Program} {w : World} {K : PySem.W.Frag} {mg : Str → Option Value} {base : Heap} {C : Addr} {mc : Value}
theorem ok_law {fl fi fs fe cl0 Pt BE : Addr} {ce : Nat → Addr} {fdi fds fde : FuncData} {oc kV doc pm ct : Value} {an od : Option Addr} {osl : Array (Option Value)}
    (lk : K.lookup fl = some ⟨oc, od, .func (PySem.W.fnOf "law" "law" (defArgs s_law) (defBody s_law) (defScope s_law) .none kV doc pm an (.ref cl0) ct), osl⟩) (code : PySem.W.codeIn K (.ref cl0) "law" = true)
    (TB : TabB base mg cl0 Pt) (T : K8 K mg C mc) (B : B8 mg) (ER : Er K mg BE ce)
    (c_law_pen : Cal P w K mg base 1 "_law_pen" (spPen K)) (c_law_draw : Cal P w K mg base 1 "_law_draw" spDraw) (c_law_words : Cal P w K mg base 2 "_law_words" spWords)
    (c_law_odd : Cal P w K mg base 2 "_law_odd" spOdd) (c_law_due : Cal P w K mg base 1 "_law_due" spDue) (DH : DefAt K mg "_law_heard" s__law_heard ["_law_ask"])
    (MK : Mk K C fi) (FIN : Gd P w K mg base (L2.CX P w) 2 fi fdi ["self", "reading", "writing", "device"] (spIK C (ce 4))) (bIN : Binds K fdi ["self", "reading", "writing", "device"] [])
    (FST : Gd P w K mg base CX0 1 fs fds ["self"] (spST C)) (bST : Binds K fds ["self"] []) (fS1 : PySem.W.findIn K (.ref C) "__str__" = some (some (.ref fs))) (fS2 : PySem.W.isFn K (.ref fs) = true)
    (FEQ : Gd P w K mg base CX0 1 fe fde ["self", "other"] (spEQ K C)) (bEQ : Binds K fde ["self", "other"] []) (eqI : PySem.W.findIn K (.ref C) "__eq__" = some (some (.ref fe))) (eqF : PySem.W.isFn K (.ref fe) = true)
    (neI : PySem.W.findIn K (.ref C) "__ne__" = some (some (.builtin "object.__ne__")))
    (kt : ∀ n : String, n = "tuple" ∨ n = "str" ∨ n = "list" → PySem.W.kitOne K (.type n) (.ref C) = some false ∧ PySem.W.notFirst K C (.type n) = true) :
    Gd P w K mg base CX0 6 fl (PySem.W.fnOf "law" "law" (defArgs s_law) (defBody s_law) (defScope s_law) .none kV doc pm an (.ref cl0) ct) ["_law_script"] (spLaw K Pt) := by
  refine gd_of lk code sc_law (fun vs H Q E h => ?_) (fun A outer s H vs Q E rm gd h => ?_)
  · obtain ⟨a, ns, rfl, _⟩ := h
    rfl
  · obtain ⟨a, ns, rfl, hS, hlen, hP, q⟩ := h
    have rmI : Room 3 (A.deeper (envOfC "law" (defScope s_law) s.heap.objs.size fl (.ref cl0))) := rm.mono (by decide)
    have rmE : Room 1 (A.deeper (envOfC "law" (defScope s_law) s.heap.objs.size fl (.ref cl0))) := rm.mono (by decide)
    have rmN : Room 2 (A.deeper (envOfC "law" (defScope s_law) s.heap.objs.size fl (.ref cl0))) := rm.mono (by decide)
    suffices h : ∃ t, PSs (cxOf CX0 P w K mg base ["_law_script", "_law_pen_here", "_law_kinds", "_law_turn", "_law_words_here", "_law_some", "_law_again", "_law_one", "_law_kind", "_law_other", "_law_more"] "law" (defScope s_law) fl (.ref cl0) A outer s H E).nox (defBody s_law) t ∧ t { nx := fun _ H' => Q .non H', rt := Q } (start ["_law_script", "_law_pen_here", "_law_kinds", "_law_turn", "_law_words_here", "_law_some", "_law_again", "_law_one", "_law_kind", "_law_other", "_law_more"] [.ref a]) H by
      obtain ⟨t, h1, h2⟩ := h
      exact ⟨t, h1.nox, h2⟩
    refine ⟨_, (pss_cons (ps_set (i := 1) sc_law.nd rfl (Or.inl rfl) (pc c_law_pen rm (by decide) gd rfl (pa_cons (pv 0) pa_nil)))
    (pss_cons (ps_set (i := 2) sc_law.nd rfl (Or.inl rfl) (pe_lst pa_nil))
    (pss_cons (ps_for PassesOwn.never rfl (pi_range1 rfl B.g_range (pa_cons pe_int pa_nil)) (pg_name (i := 3) sc_law.nd rfl (Or.inl rfl))
      (pss_cons (ps_set (i := 4) sc_law.nd rfl (Or.inl rfl) (pc c_law_words rm (by decide) gd rfl (pa_cons (pv 1) pa_nil)))
      (pss_cons (ps_expr (pe_bm PySem.F.plainAttrs_list PySem.F.slot_list_append PySem.F.type_list_append mt_append (pv 2) (pa_cons (pv 4) pa_nil)))
      (pss_cons (ps_set (i := 5) sc_law.nd rfl (Or.inr rfl) (pe_callTy call_list_of (by rfl) B.g_list (by decide +kernel) (pa_cons (pv 4) pa_nil)))
      (pss_cons (ps_for PassesOwn.never rfl (pi_range1 rfl B.g_range (pa_cons (pe_op op_add pe_int (pc c_law_draw rm (by decide) gd rfl (pa_cons (pv 1) (pa_cons pe_int pa_nil)))) pa_nil)) (pg_name (i := 6) sc_law.nd rfl (Or.inl rfl))
        (pss_one (ps_asg (pc c_law_odd rm (by decide) gd rfl (pa_cons (pv 1) pa_nil)) (pg_sub (pv 5) (pc c_law_draw rm (by decide) gd rfl (pa_cons (pv 1) (pa_cons pe_int pa_nil))) set_list))))
      (pss_one (ps_if (pt_cmpR op_ne (pe_lam (k := 3) (t := fun E => tCB (rStrO C (spST C) E0) (tCons (tMake C (spIK C (ce 4)) [] E (tCons (tOp (rIxL K) (tVar 5) (tC (.int 0))) (tCons (tOp (rIxL K) (tVar 5) (tC (.int 1))) (tCons (tOp (rIxL K) (tVar 5) (tC (.int 2))) tNil)))) tNil)) (T := [(Pt, ("law" ++ ".<locals>." : Str) ++ "<lambda>")]) DH (heard_gives (k := 4) ER rm gd) rfl TB rfl (List.mem_singleton.mpr rfl) (fun p hp _ => by rw [List.mem_singleton.mp hp]; rfl) rm gd ⟨lamS_by (sc := defScope s_law) (by decide +kernel), fun _ _ _ _ _ => rfl⟩ rfl (fun A outer s H E f c' rm3 gd3 => (pe_callTy (call_strO FST rm3 gd3 fS1 fS2 bST pass0) (by rfl) B.g_str (by decide +kernel) (pa_cons (pe_gmake MK FIN rm3 gd3 rfl T.g_Kind bIN .nil pass_lam (pa_cons (pe_ix ix_list (pv 5) pe_int (fun _ _ => rfl)) (pa_cons (pe_ix ix_list (pv 5) pe_int (fun _ _ => rfl)) (pa_cons (pe_ix ix_list (pv 5) pe_int (fun _ _ => rfl)) pa_nil)))) pa_nil)))) (pc c_law_due rm (by decide) gd rfl (pa_cons (pv 5) pa_nil)) (nomark _))
        (pss_one (ps_ret pe_bl))
        pss_nil)))))))
    (pss_cons (ps_for PassesOwn.never rfl (pi_list (pv 2)) (pg_name (i := 7) sc_law.nd rfl (Or.inl rfl))
      (pss_cons (ps_set (i := 8) sc_law.nd rfl (Or.inl rfl) (pe_gmake MK FIN rmI gd rfl T.g_Kind bIN .nil pass_no (pa_cons (pe_ix ix_tup (pv 7) pe_int (fun _ _ => rfl)) (pa_cons (pe_ix ix_tup (pv 7) pe_int (fun _ _ => rfl)) (pa_cons (pe_ix ix_tup (pv 7) pe_int (fun _ _ => rfl)) pa_nil)))))
      (pss_cons (ps_for PassesOwn.never rfl (pi_list (pv 2)) (pg_name (i := 9) sc_law.nd rfl (Or.inl rfl))
        (pss_cons (ps_set (i := 10) sc_law.nd rfl (Or.inl rfl) (pe_gmake MK FIN rmI gd rfl T.g_Kind bIN .nil pass_no (pa_cons (pe_ix ix_tup (pv 9) pe_int (fun _ _ => rfl)) (pa_cons (pe_ix ix_tup (pv 9) pe_int (fun _ _ => rfl)) (pa_cons (pe_ix ix_tup (pv 9) pe_int (fun _ _ => rfl)) pa_nil)))))
        (pss_one (ps_if (pt_cmpR op_ne (pe_callB (call_reprA rm gd) (by rfl) B.g_repr (by decide +kernel) (pa_cons (pe_lst (pa_cons (pe_cmpR (op_eqO FEQ rmE gd eqI eqF bEQ pass0) (pv 8) (pv 10) (nomark _)) (pa_cons (pe_cmpR (op_neO FEQ rmN gd eqI eqF neI T.isM bEQ pass0) (pv 8) (pv 10) (nomark _)) pa_nil))) pa_nil)) (pe_callB (call_reprA rm gd) (by rfl) B.g_repr (by decide +kernel) (pa_cons (pe_lst (pa_cons (pe_cmpR (op_eqD rm.units) (pv 7) (pv 9) (nomark _)) (pa_cons (pe_cmpR (op_neD rm.units) (pv 7) (pv 9) (nomark _)) pa_nil))) pa_nil)) (nomark _))
          (pss_one (ps_ret pe_bl))
          pss_nil))))
      (pss_one (ps_if (PW.pt (pw_or (pt_cmpR (op_eqO FEQ rmE gd eqI eqF bEQ pass0) (pv 8) (pv 7) (nomark _)) (pw_or (pt_cmpR (op_eqO FEQ rmE gd eqI eqF bEQ pass0) (pv 8) (pe_join pe_str (pv 7)) (nomark _)) (pw_or1 (pt_cmpR (op_eqO FEQ rmE gd eqI eqF bEQ pass0) (pv 8) (pe_callTy call_list_of (by rfl) B.g_list (by decide +kernel) (pa_cons (pv 7) pa_nil)) (nomark _))))))
        (pss_one (ps_ret pe_bl))
        pss_nil)))))
    (pss_one (ps_ret pe_bl)))))), ?_⟩
    walk_at "go"
    refine ⟨a, ns, rfl, hS, hlen, fun p l cells H1 np pen1 s1 => ?_⟩
    walk_at "go"
    refine new (show 0 ≤ sizeLine by decide) fun kl H2 n2 h2 s2 => ?_
    walk_at "go"
    have hP2 := s2 _ _ (s1 _ _ hP)
    have L0 : Ls 0 p l cells [(Pt, ("law" ++ ".<locals>." : Str) ++ "<lambda>")] kl [] H2 := by
      refine ⟨pen1.same s2, fun pr hp => by rw [List.mem_singleton.mp hp]; exact TabS.nil hP2, h2, fun t ht => (nomatch ht), ?_, ?_⟩
      · obtain ⟨_, _, _, _, _, z⟩ := pen1
        exact (ne_of_none z n2).symm
      · obtain ⟨_, z, _⟩ := pen1
        exact (ne_of_none z n2).symm
    refine over_r (by decide) (by decide) (for_range (n := 12) (fun i σ' H' => ∃ ts, Ls (8 * i) p l cells [(Pt, ("law" ++ ".<locals>." : Str) ++ "<lambda>")] kl ts H' ∧ ts.length = i ∧
      ∃ v3 v4 v5 v6 v7 v8 v9 v10, σ' = [some (.ref a), some (.ref p), some (.ref kl), v3, v4, v5, v6, v7, v8, v9, v10]) ⟨[], L0, rfl, _, _, _, _, _, _, _, _, rfl⟩ ?_ ?_)
    · rintro i σ' H3 hi ⟨ts, L, lts, v3, v4, v5, v6, v7, v8, v9, v10, rfl⟩
      walk_at "go"
      refine ⟨p, l, cells, 8 * i, rfl, L.pen, by omega, fun t r wr d H4 hr hw hd nt h4 pen4 k4 => ?_⟩
      have L4 := L.kp pen4 k4
      walk_at "go"
      refine w_bm ?_
      walk_at "go"
      refine ⟨ty_list L4.kin, ?_⟩
      walk_at "go"
      refine w_app L4.kin (by rw [List.length_map, lts]; exact Nat.lt_of_lt_of_le hi (by decide)) rfl fun H5 h5 e5 => ?_
      have L5 := L4.app hr hw hd h4 h5 e5
      have h4' : H5 t = some (.tup [.str r, .str wr, .str d]) := (e5 t fun y => by rw [y, L4.kin] at h4; cases h4).trans h4
      walk_at "go"
      refine ⟨t, _, rfl, .inr (SqT.of h4'), fun sl nsl => ?_⟩
      have s6 : Same H5 (upd H5 sl (.lst [.str r, .str wr, .str d])) := fun b o e => by
        rw [upd_ne (ne_of_none e nsl)]
        exact e
      have h6 : upd H5 sl (.lst [.str r, .str wr, .str d]) sl = some (.lst [.str r, .str wr, .str d]) := upd_same
      have m1 : sl ≠ p := by
        obtain ⟨xs, z, _⟩ := L5.at_p
        exact (ne_of_none z nsl).symm
      have m2 : sl ≠ l := by
        obtain ⟨_, z, _⟩ := L5.pen
        exact (ne_of_none z nsl).symm
      have m3 : sl ≠ kl := (ne_of_none L5.kin nsl).symm
      generalize upd H5 sl (.lst [.str r, .str wr, .str d]) = H6 at s6 h6
      have L6 := L5.same s6
      have tri0 : Tri sl (.str r) (.str wr) (.str d) (.str r) (.str wr) (.str d) H6 := ⟨h6, ⟨oS _, word_ok.1 r hr⟩, ⟨oS _, word_ok.2.1 wr hw⟩, ⟨oS _, word_ok.2.2 d hd⟩⟩
      walk_at "go"
      refine ⟨p, l, cells, 8 * i + 3, 2, rfl, L6.pen, by omega, by decide, by decide, fun j2 H7 b0 b1 pen7 k7 => ?_⟩
      have L7 := L6.kp pen7 k7
      have tri7 : Tri sl (.str r) (.str wr) (.str d) (.str r) (.str wr) (.str d) H7 := ⟨k7 _ _ h6 m1, ⟨oS _, word_ok.1 r hr⟩, ⟨oS _, word_ok.2.1 wr hw⟩, ⟨oS _, word_ok.2.2 d hd⟩⟩
      walk_at "go"
      refine over_r (by omega) (by omega) (for_range (n := (1 + j2).toNat) (fun j σ' H' => Ls (8 * i + 4 + 2 * j) p l cells [(Pt, ("law" ++ ".<locals>." : Str) ++ "<lambda>")] kl (ts ++ [t]) H' ∧
        (∃ a b c da db dc, Tri sl a b c da db dc H') ∧ ∃ v6, σ' = [some (.ref a), some (.ref p), some (.ref kl), some (.int (0 + (i : Int))), some (.ref t), some (.ref sl), v6, v7, v8, v9, v10]) ⟨L7, ⟨_, _, _, _, _, _, tri7⟩, _, rfl⟩ ?_ ?_)
      · rintro j σ' H8 hj ⟨L8, ⟨xa, xb, xc, da, db, dc, hsl, ⟨oa, ka⟩, ⟨ob, kb⟩, ⟨oc, kc⟩⟩, v6, rfl⟩
        have j3 : j < 2 := by omega
        walk_at "go"
        refine ⟨p, l, cells, 8 * i + 4 + 2 * j, rfl, L8.pen, by omega, fun y dy H9 my oy pen9 k9 => ?_⟩
        have L9 := L8.kp pen9 k9
        have hsl9 := k9 _ _ hsl m1
        have oa9 := Ov.kp L8 k9 oa
        have ob9 := Ov.kp L8 k9 ob
        have oc9 := Ov.kp L8 k9 oc
        have ky := okD_all dy my
        walk_at "go"
        refine ⟨p, l, cells, 8 * i + 4 + 2 * j + 1, 3, rfl, L9.pen, by omega, by decide, by decide, fun ix H10 c0 c1 pen10 k10 => ?_⟩
        have L10 := L9.kp pen10 k10
        have hsl10 := k10 _ _ hsl9 m1
        have oa10 := Ov.kp L9 k10 oa9
        have ob10 := Ov.kp L9 k10 ob9
        have oc10 := Ov.kp L9 k10 oc9
        have oy10 := Ov.kp L9 k10 oy
        have l3 : (2 : Nat) ≤ [xa, xb, xc].length := show 2 ≤ 3 by decide
        have fin : ∀ (ys : List V) (H11 : Hp), H11 sl = some (.lst ys) → (∀ b, b ≠ sl → H11 b = H10 b) → (∃ a b c, ys = [a, b, c] ∧ (∃ da, Ov H10 a da ∧ okD da = true) ∧ (∃ db, Ov H10 b db ∧ okD db = true) ∧ (∃ dc, Ov H10 c dc ∧ okD dc = true)) →
            Ls (8 * i + 4 + 2 * (j + 1)) p l cells [(Pt, ("law" ++ ".<locals>." : Str) ++ "<lambda>")] kl (ts ++ [t]) H11 ∧ (∃ a b c da db dc, Tri sl a b c da db dc H11) := fun ys H11 hy e11 ⟨a, b, c, ey, ⟨da, o1, k1⟩, ⟨db, o2, k2⟩, ⟨dc, o3, k3⟩⟩ => by
          have but : ∀ b o, H10 b = some o → b ≠ sl → H11 b = some o := fun b o z nb => (e11 b nb).trans z
          exact ⟨(L10.upd hsl10 m1 m2 m3 e11).mono (by omega), a, b, c, da, db, dc, by rw [hy, ey], ⟨o1.but hsl10 l3 but, k1⟩, ⟨o2.but hsl10 l3 but, k2⟩, ⟨o3.but hsl10 l3 but, k3⟩⟩
        have ix3 : ix = 0 ∨ ix = 1 ∨ ix = 2 := by omega
        rcases ix3 with rfl | rfl | rfl
        · refine w_setG hsl10 rfl rfl fun H11 h11 e11 => ?_
          obtain ⟨f1, f2⟩ := fin _ H11 h11 e11 ⟨_, _, _, rfl, ⟨_, oy10, ky⟩, ⟨_, ob10, kb⟩, ⟨_, oc10, kc⟩⟩
          exact ⟨f1, f2, _, rfl⟩
        · refine w_setG hsl10 rfl rfl fun H11 h11 e11 => ?_
          obtain ⟨f1, f2⟩ := fin _ H11 h11 e11 ⟨_, _, _, rfl, ⟨_, oa10, ka⟩, ⟨_, oy10, ky⟩, ⟨_, oc10, kc⟩⟩
          exact ⟨f1, f2, _, rfl⟩
        · refine w_setG hsl10 rfl rfl fun H11 h11 e11 => ?_
          obtain ⟨f1, f2⟩ := fin _ H11 h11 e11 ⟨_, _, _, rfl, ⟨_, oa10, ka⟩, ⟨_, ob10, kb⟩, ⟨_, oy10, ky⟩⟩
          exact ⟨f1, f2, _, rfl⟩
      · rintro σ' H8 ⟨L8, ⟨xa, xb, xc, da, db, dc, hsl, ⟨oa, ka⟩, ⟨ob, kb⟩, ⟨oc, kc⟩⟩, v6, rfl⟩
        walk_at "go"
        refine ⟨L8.tab, fun H9 eN T9 => ?_⟩
        have L9 := L8.ext eN T9
        have tri9 : Tri sl xa xb xc da db dc H9 := ⟨eN _ _ hsl nofun, ⟨oa.ext eN, ka⟩, ⟨ob.ext eN, kb⟩, ⟨oc.ext eN, kc⟩⟩
        refine heard_by (text := theText xa xb xc da db dc) (fun H10 s10 => ?_) (fun E' Q' hE hQ => ?_)
        · have L10 := L9.same s10
          have tri10 := tri9.same s10
          walk_at "go"
          refine due_by tri10 fun H11 s11 => ?_
          generalize theText xa xb xc da db dc = text
          walk_at "go"
          refine iteNS rfl ?_
          walk_at "go"
          exact ⟨ts ++ [t], (L10.same s11).mono (by omega), by rw [List.length_append, lts]; rfl, _, _, _, _, _, _, _, _, rfl⟩
        · clear L9 L8 L6 L7 L5 L4 L
          have hsl9 := tri9.1
          walk_at "go"
          refine make fun x dx H10 nx hx sx => ?_
          obtain ⟨_, ⟨oa, ka⟩, ⟨ob, kb⟩, ⟨oc, kc⟩⟩ := tri9.same sx
          obtain ⟨a1, a2, a3, a4, a5⟩ := okD_parts ka
          obtain ⟨b1', b2', b3', b4', b5'⟩ := okD_parts kb
          obtain ⟨c1', c2', c3', c4', c5'⟩ := okD_parts kc
          refine ⟨x, dx, xa, xb, xc, da, db, dc, rfl, hx, ⟨fun H' s => (oa.same s).da, a4, a5⟩, ⟨fun H' s => (ob.same s).da, b4', b5'⟩, ⟨fun H' s => (oc.same s).da, c4', c5'⟩,
            fun h1 dd H' s hd => hE 4 dd xa da H' (by decide) (sx.trans s) hd (fun H2 s2 => ((oa.same s).same s2).da) (fun k H2 s2 => ((oa.same s).same s2).dn k) a1 a2 a3 (text_a h1).symm,
            fun h1 h2 dd H' s hd => hE 4 dd xb db H' (by decide) (sx.trans s) hd (fun H2 s2 => ((ob.same s).same s2).da) (fun k H2 s2 => ((ob.same s).same s2).dn k) b1' b2' b3' (text_b h1 h2).symm,
            fun h1 h2 h3 dd H' s hd => hE 4 dd xc dc H' (by decide) (sx.trans s) hd (fun H2 s2 => ((oc.same s).same s2).da) (fun k H2 s2 => ((oc.same s).same s2).dn k) c1' c2' c3' (text_c h1 h2 h3).symm, fun h1 h2 h3 => ?_⟩
          obtain ⟨r', hr', rfl⟩ := bad_word oa h1
          obtain ⟨w', hw', rfl⟩ := bad_word ob h2
          obtain ⟨d', hd', rfl⟩ := bad_word oc h3
          refine ⟨r', w', d', rfl, rfl, rfl, fun H' hk e' => ⟨rfl, ?_⟩⟩
          obtain ⟨dx', st', hk1⟩ := id hk
          have kT := okT_all r' hr' w' hw' d' hd'
          unfold okT at kT
          simp only [Bool.and_eq_true, decide_eq_true_eq] at kT
          obtain ⟨⟨k1, k2⟩, k3⟩ := kT
          walk_at "go"
          refine ⟨x, dx', _, rfl, hk1, x, r', w', d', rfl, hk, hr', hw', hd', _, rfl, ?_⟩
          have lz : 1000 ≤ sizeLine := by decide
          have et : theText (.str r') (.str w') (.str d') da db dc = duT r' w' d' := text_t h1 h2 h3
          unfold duT at et
          exact hQ (.str (Str.empty ++ r' ++ " " ++ w' ++ " " ++ d')) (.str (Str.empty ++ r' ++ " " ++ w' ++ " " ++ d')) H' (fun b o z => e' b o (sx _ _ z) (ne_of_none z nx)) (fun H2 _ => Da.str _) (by simp [PyData.hasDict]) k1 k2 (Nat.le_trans k3 lz) et.symm
    · rintro σ' H3 ⟨ts, L, lts, v3, v4, v5, v6, v7, v8, v9, v10, rfl⟩
      walk_at "go"
      refine over_l (SqL.of L.kin) (for_list (xs := ts.map V.ref) (fun i σ' H' => Ls (8 * 12) p l cells [(Pt, ("law" ++ ".<locals>." : Str) ++ "<lambda>")] kl ts H' ∧ ∃ v7 v8 v9 v10, σ' = [some (.ref a), some (.ref p), some (.ref kl), v3, v4, v5, v6, v7, v8, v9, v10])
        ⟨L, _, _, _, _, rfl⟩ (fun i σ H' _ ⟨z, _⟩ => SqL.of z.kin) ?_ ?_)
      · rintro i y σ' H4 hi ⟨L4, v7, v8, v9, v10, rfl⟩
        rw [List.getElem?_map] at hi
        obtain ⟨t1, ht1, rfl⟩ := Option.map_eq_some_iff.mp hi
        have m1 := List.mem_of_getElem? ht1
        obtain ⟨r, wr, d, hr, hw, hd, h1⟩ := L4.ws t1 m1
        walk_at "go"
        refine make fun k1 dx1 H5 n5 h5 s5 => ?_
        refine mk_by h5 hr hw hd fun H6 hk6 e6 => ⟨rfl, ?_⟩
        have s6 : Same H4 H6 := fun b o z => e6 b o (s5 _ _ z) (ne_of_none z n5)
        have L6 := L4.same s6
        walk_at "go"
        refine over_l (SqL.of L6.kin) (for_list (xs := ts.map V.ref) (fun i σ' H' => Ls (8 * 12) p l cells [(Pt, ("law" ++ ".<locals>." : Str) ++ "<lambda>")] kl ts H' ∧ KindAt C H' k1 r wr d ∧ H' t1 = some (.tup [.str r, .str wr, .str d]) ∧
          ∃ v9 v10, σ' = [some (.ref a), some (.ref p), some (.ref kl), v3, v4, v5, v6, some (.ref t1), some (.ref k1), v9, v10]) ⟨L6, hk6, s6 _ _ h1, _, _, rfl⟩ (fun i σ H' _ ⟨z, _⟩ => SqL.of z.kin) ?_ ?_)
        · rintro j y σ' H7 hj ⟨L7, hk7, h7, v9, v10, rfl⟩
          rw [List.getElem?_map] at hj
          obtain ⟨t2, ht2, rfl⟩ := Option.map_eq_some_iff.mp hj
          have m2 := List.mem_of_getElem? ht2
          obtain ⟨r2, w2, d2, hr2, hw2, hd2, h2⟩ := L7.ws t2 m2
          walk_at "go"
          refine make fun k2 dx2 H8 n8 h8 s8 => ?_
          refine mk_by h8 hr2 hw2 hd2 fun H9 hk9 e9 => ⟨rfl, ?_⟩
          have s9 : Same H7 H9 := fun b o z => e9 b o (s8 _ _ z) (ne_of_none z n8)
          have lz : 1000 ≤ sizeLine := by decide
          have hka := hk7.same s9
          obtain ⟨dxa, sta, ia⟩ := id hka
          have nfC : PySem.W.notFirst K C (.ref C) = true := by
            unfold PySem.W.notFirst
            simp
          walk_at "go"
          refine ⟨k1, dxa, _, .ref C, rfl, ia, ty_kind T hk9, nfC, .inl ⟨k1, k2, r, wr, d, r2, w2, d2, rfl, hka, hk9, _, rfl, ?_⟩⟩
          walk_at "go"
          refine ⟨k1, dxa, _, .ref C, rfl, ia, ty_kind T hk9, nfC, .inl ⟨k1, k2, r, wr, d, r2, w2, d2, rfl, hka, hk9, _, rfl, ?_⟩⟩
          have te := tup_eqv r wr d r2 w2 d2
          generalize (decide (r = r2) && decide (wr = w2) && decide (d = d2)) = b at te
          have tw := two_ok b
          have g1 := s9 _ _ h7
          have g2 := s9 _ _ h2
          have sh1 := tup_shaped r wr d (word_ok.1 r hr) (word_ok.2.1 wr hw) (word_ok.2.2 d hd)
          have sh2 := tup_shaped r2 w2 d2 (word_ok.1 r2 hr2) (word_ok.2.1 w2 hw2) (word_ok.2.2 d2 hd2)
          walk_at "go"
          refine new (show 2 ≤ sizeLine by decide) fun p1 H10 n10 h10 s10 => ?_
          have h10 : H10 p1 = some (.lst [.bl b, .bl (!b)]) := h10
          walk_at "go"
          refine ⟨.ref p1, twoD b, rfl, Da.lst h10 (.cons (.bl _) (.cons (.bl _) .nil)), fun y => (by rw [tw.2.2.2] at y; cases y), tw.1, tw.2.1, Nat.le_trans tw.2.2.1 lz, ?_⟩
          walk_at "go"
          have f1 := s10 _ _ g1
          have f2 := s10 _ _ g2
          refine ⟨_, _, .tup (SqT.of f1) (.cons (.str _) (.cons (.str _) (.cons (.str _) .nil))), .tup (SqT.of f2) (.cons (.str _) (.cons (.str _) (.cons (.str _) .nil))), sh1, sh2, ?_⟩
          rw [te]
          walk_at "go"
          refine ⟨_, _, .tup (SqT.of f1) (.cons (.str _) (.cons (.str _) (.cons (.str _) .nil))), .tup (SqT.of f2) (.cons (.str _) (.cons (.str _) (.cons (.str _) .nil))), sh1, sh2, ?_⟩
          rw [te]
          walk_at "go"
          refine new (show 2 ≤ sizeLine by decide) fun p2 H11 n11 h11 s11 => ?_
          walk_at "go"
          refine ⟨.ref p2, twoD b, rfl, Da.lst h11 (.cons (.bl _) (.cons (.bl _) .nil)), fun y => (by rw [tw.2.2.2] at y; cases y), tw.1, tw.2.1, Nat.le_trans tw.2.2.1 lz, ?_⟩
          generalize (twoD b).shown = text
          walk_at "go"
          refine iteNS rfl ?_
          walk_at "go"
          have sF : Same H7 H11 := fun b o z => s11 _ _ (s10 _ _ (s9 _ _ z))
          exact ⟨L7.same sF, hk7.same sF, sF _ _ h7, _, _, rfl⟩
        · rintro σ' H7 ⟨L7, hk7, h7, v9, v10, rfl⟩
          obtain ⟨dxa, sta, ia⟩ := id hk7
          walk_at "go"
          refine ⟨k1, dxa, _, .type "tuple", rfl, ia, .base (.tup h7), (kt "tuple" (.inl rfl)).2, .inr ⟨k1, .ref t1, .type "tuple", rfl, .base (.tup h7), (kt "tuple" (.inl rfl)).1, _, rfl, ?_⟩⟩
          refine ⟨_, rfl, iteF ?_⟩
          walk_at "go"
          refine ⟨⟨_, rfl⟩, _, rfl, " ", t1, [r, wr, d], rfl, rfl, .inr (SqT.of h7), ?_, ?_⟩
          · have l1 := sh_rd r hr
            have l2 := sh_wr wr hw
            have l3 := sh_dv d hd
            show r.length + (wr.length + (d.length + 0)) + 3 * 1 ≤ 16777216
            omega
          refine ⟨k1, dxa, _, .type "str", rfl, ia, .base (.str _), (kt "str" (.inr (.inl rfl))).2, .inr ⟨k1, _, .type "str", rfl, .base (.str _), (kt "str" (.inr (.inl rfl))).1, _, rfl, ?_⟩⟩
          refine ⟨_, rfl, iteF ?_⟩
          walk_at "go"
          refine ⟨t1, _, rfl, .inr (SqT.of h7), fun q1 nq => ?_⟩
          have sq : Same H7 (upd H7 q1 (.lst [.str r, .str wr, .str d])) := fun b o z => by
            rw [upd_ne (ne_of_none z nq)]
            exact z
          have hq1 : upd H7 q1 (.lst [.str r, .str wr, .str d]) q1 = some (.lst [.str r, .str wr, .str d]) := upd_same
          refine ⟨k1, dxa, _, .type "list", rfl, sq _ _ ia, .base (.lst hq1), (kt "list" (.inr (.inr rfl))).2, .inr ⟨k1, _, .type "list", rfl, .base (.lst hq1), (kt "list" (.inr (.inr rfl))).1, _, rfl, ?_⟩⟩
          generalize upd H7 q1 (.lst [.str r, .str wr, .str d]) = H8 at sq
          refine ⟨_, rfl, iteF ?_⟩
          walk_at "go"
          exact ⟨L7.same sq, _, _, _, _, rfl⟩
      · rintro σ' H4 ⟨L4, v7, v8, v9, v10, rfl⟩
        walk_at "go"
        exact q _
end
end Law

set_option Elab.async false
set_option linter.all false
set_option maxRecDepth 100000
set_option maxHeartbeats 4000000
namespace Law
open PySem PySem.Spec PySem.Calls PyProof.Rows L2 KG
local macro_rules | `(tactic| walk_at "1") => `(tactic| first
  | (with_reducible refine w_var rfl ?_) | (with_reducible refine w_c ?_) | (with_reducible refine w_seq ?_) | (with_reducible refine w_asg ?_) | (with_reducible refine w_gname ?_) | (with_reducible refine w_op ?_) | (with_reducible refine w_un ?_)
  | (with_reducible refine w_add ?_) | (with_reducible refine w_sub ?_) | ((with_reducible refine' w_mod ?mo ?_); (case mo => first | assumption | decide | omega)) | (with_reducible refine w_and ?_) | (with_reducible refine w_or ?_) | (with_reducible refine w_xor ?_)
  | (with_reducible refine w_gt ?_) | (with_reducible refine w_lt ?_) | (with_reducible refine w_ge ?_) | (with_reducible refine w_le ?_) | ((with_reducible refine' w_eq ?sc ?_); (case sc => rfl)) | ((with_reducible refine' w_ne ?sc ?_); (case sc => rfl))
  | (with_reducible refine w_ret ?_) | (with_reducible refine w_next ?_) | (with_reducible refine w_ifs ?_) | (with_reducible refine w_ifx ?_) | (with_reducible refine w_test ?_) | (with_reducible refine w_tB ?_) | (with_reducible refine w_bl ?_)
  | ((with_reducible refine' w_ixL ?ixh ?ixa ?_); (case ixh => first | exact SqL.of (by assumption)); (case ixa => first | rfl | skip)) | ((with_reducible refine' w_ixT ?ixh ?ixa ?_); (case ixh => first | exact SqT.of (by assumption)); (case ixa => first | rfl | skip))
  | ((with_reducible refine' w_fld ?_)) | ((with_reducible refine' fld ?fh ?fc ?fn ?fl ?_); (case fh => assumption); (case fc => assumption); (case fn => assumption); (case fl => rfl)) | (with_reducible refine w_sfld ?_)
  | (with_reducible refine Or.inl ⟨_, rfl, ?_⟩) | (with_reducible refine w_gsub ?_) | (with_reducible refine w_andV ?_) | (with_reducible refine w_orV ?_)
  | (with_reducible refine w_nil ?_) | (with_reducible refine w_cons ?_) | (with_reducible refine w_tup ?_) | (with_reducible refine w_lst ?_) | (with_reducible refine w_and2 ?_) | (with_reducible refine w_or2 ?_) | (with_reducible refine w_not ?_) | (with_reducible refine w_cb ?_) | (with_reducible refine w_call ?_) | (with_reducible refine w_par ?_) | (with_reducible refine w_pnil ?_) | (with_reducible refine w_pcons ?_) | (with_reducible refine w_dput ?_) | (with_reducible refine w_dget ?_) | (with_reducible refine w_for ?_) | (with_reducible refine w_itup ?_) | (with_reducible refine w_ilist ?_) | (with_reducible refine w_irng ?_) | (with_reducible refine w_meth ?_) | (with_reducible refine w_make ?_) | (with_reducible refine w_makeK ?_) | (with_reducible refine w_methK ?_) | ((with_reducible refine' mth ?mh ?ml ?_); (case mh => assumption); (case ml => rfl)) | (with_reducible refine w_drop ?_))
local macro_rules | `(tactic| walk_at "go") => `(tactic| ((repeat (walk_at "1")); try dsimp only))
theorem ktup {K : PySem.W.Frag} {a : Addr} {dd : Option Addr} {its : Array Value} {n : Nat} {sl : Array (Option Value)} {xs : List V} (h : K.lookup a = some ⟨.type "tuple", dd, .seq its n, sl⟩) (z : Nat.ble its.size 100 = true) (r : Vals xs its.toList) : KTup K a xs :=
  ⟨_, its, n, h, rfl, rfl, Nat.le_trans (Nat.le_of_ble_eq_true z) (by decide), r⟩
theorem kit_own {K : PySem.W.Frag} {t : Value} {C : Addr} {b : Bool} (hd : PySem.W.hasDictIn K C = true) (ty : PySem.W.typeIn K (.ref C) = some (.type "type")) (ne : (t == Value.ref C) = false) (s : PySem.W.subIn K t (.ref C) = some b) : PySem.W.kitOne K t (.ref C) = some b := by
  obtain ⟨cd, hc, _⟩ := PySem.W.any_some hd
  have e2 : ((PySem.W.clsIn K C).isSome && PySem.W.typeIn K (.ref C) == some (.type "type")) = true := by rw [hc, ty] <;> rfl
  unfold PySem.W.kitOne
  rw [ne, if_neg Bool.false_ne_true]
  show (if ((PySem.W.clsIn K C).isSome && PySem.W.typeIn K (.ref C) == some (.type "type")) = true then PySem.W.subIn K t (.ref C) else none) = some b
  rw [if_pos e2]
  exact s
theorem kit_same {K : PySem.W.Frag} {t : Value} : PySem.W.kitOne K t t = some true := if_pos (beq_self_eq_true t)
theorem kit_ve {K : PySem.W.Frag} {a : Addr} (s : PySem.W.subIn K (.ref a) (.type "ValueError") = some true) : PySem.W.kitOne K (.ref a) (.type "ValueError") = some true := by
  unfold PySem.W.kitOne
  rw [if_neg (by simp)]
  show (if PySem.W.kitMeta "ValueError" = true then PySem.W.subIn K (.ref a) (.type "ValueError") else none) = some true
  rw [if_pos (by decide +kernel)]
  exact s
theorem sup_up {K : PySem.W.Frag} {E BE N : Addr} {nm q : Str} {bs bm : List Value} {hdct : Bool} {sn : List Str} {sub : List Value} {ab : Bool} {col : Option Bool} {dd : Option Addr} {k0 k1 k2 k3 k5 : Option Value} {newId : String} {cdB : ClassData}
    (cl : K.lookup E = some (excClassObj nm q E N bs bm hdct sn sub ab col dd k0 k1 k2 k3 k5 newId)) (cB : PySem.W.clsIn K BE = some cdB) (mB : bm = cdB.mro) (f : PySem.W.findIn K (.ref BE) "__init__" = some (some (.builtin "ValueError.__init__"))) : PySem.W.ks_superIn K E E "__init__" = some (some (.builtin "ValueError.__init__")) := by
  have hcl : PySem.W.clsIn K E = some { name := nm, bases := bs, mro := .ref E :: bm, ns := N, qualname := q, hasDict := hdct, slotNames := sn, subclasses := sub, abstract := ab, collection := col, hasDel := false } := by
    unfold PySem.W.clsIn
    rw [cl] <;> rfl
  unfold PySem.W.ks_superIn
  rw [hcl, Option.bind_some]
  show PySem.W.alongIn K "__init__" (((Value.ref E :: bm).dropWhile (· != .ref E)).drop 1) = _
  have e : ((Value.ref E :: bm).dropWhile (· != .ref E)).drop 1 = bm := by simp [List.dropWhile_cons]
  rw [e, mB]
  unfold PySem.W.findIn at f
  dsimp only at f
  unfold PySem.W.clsIn at cB
  cases z : K.lookup BE with
  | none =>
    rw [z] at cB
    cases cB
  | some o =>
    rw [z] at cB f
    obtain ⟨oc, od, dt, osl⟩ := o
    cases dt with
    | cls cd =>
      cases cB
      exact f
    | _ => cases cB
theorem errX : ErrX s_InvalidKind___init__ "InvalidKind.__init__" "value" "value" :=
  ⟨_, _, _, _, _, _, _, _, _, _, _, _, rfl, { bind := fun _ _ _ _ _ _ _ _ _ => rfl, ev := ⟨_, fun _ => rfl⟩, par := rfl, k1 := by decide +kernel, k2 := by decide +kernel, k3 := by decide +kernel, k4 := by decide +kernel, npv := by decide, npd := by decide, cell := by decide +kernel, co := by decide +kernel, gen := by decide +kernel, kind := by decide +kernel }⟩
theorem all {l : PySem.W.OpenLaw} {w : World} {K : PySem.W.Frag} {h : Heap} {mg : Str → Option Value} {fa : Addr} {q : Program} (X : K.In h) (G : h.Ns mainGlobals mg) (hfa : mg "law" = some (.ref fa)) (tabs : Tabs0 q mg h) (hr : ((recsOf q).any fun d => d.name == "law") = true)
    {C aR bW aD BE : Addr} {mc : Value} {u2 : Tok} {u3 : Tok} {ddt1 : Option Addr} {nnt1 : Nat} {sst1 : Array (Option Value)} {u5 : Tok} {u6 : Tok} {u7 : Tok} {u8 : Tok} {u9 : Tok} {u10 : Tok} {u11 : Tok} {ddt4 : Option Addr} {nnt4 : Nat} {sst4 : Array (Option Value)} {u13 : Tok} {u14 : Tok} {u15 : Tok} {u16 : Tok} {ddt12 : Option Addr} {nnt12 : Nat} {sst12 : Array (Option Value)} {E0 : Addr} {E1 : Addr} {E2 : Addr} {E3 : Addr} {E4 : Addr} {E5 : Addr} {nmE qE : Str} {NE : Addr} {bsE bmE : List Value} {snE : List Str} {subE : List Value} {abE : Bool} {colE : Option Bool} {ddE : Option Addr} {j0 j1 j2 j3 j5 : Option Value} {fI cda cc : Addr} {ocE kVE dcE pmE ctE : Value} {anE odE : Option Addr} {slE : Array (Option Value)} {ccl ccv : Value} {cdd cld : Option Addr} {vsE : Array Value} {ccs csl : Array (Option Value)} {fileE : Str} {tfE : Tok} {cdB : ClassData} {m_Kind_init : Addr} {odv17 anv17 : Option Addr} {slv17 : Array (Option Value)} {ocv17 kVv17 dcv17 pmv17 cdv17 ctv17 : Value} {m_Kind_eq : Addr} {odv18 anv18 : Option Addr} {slv18 : Array (Option Value)} {ocv18 kVv18 dcv18 pmv18 cdv18 ctv18 : Value} {m_Kind_str : Addr} {odv19 anv19 : Option Addr} {slv19 : Array (Option Value)} {ocv19 kVv19 dcv19 pmv19 cdv19 ctv19 : Value} {f__law_pen : Addr} {odv20 anv20 : Option Addr} {slv20 : Array (Option Value)} {ocv20 kVv20 dcv20 pmv20 cdv20 ctv20 : Value} {f__law_draw : Addr} {odv21 anv21 : Option Addr} {slv21 : Array (Option Value)} {ocv21 kVv21 dcv21 pmv21 cdv21 ctv21 : Value} {f__law_words : Addr} {odv22 anv22 : Option Addr} {slv22 : Array (Option Value)} {ocv22 kVv22 dcv22 pmv22 cdv22 ctv22 : Value} {f__law_odd : Addr} {odv23 anv23 : Option Addr} {slv23 : Array (Option Value)} {ocv23 kVv23 dcv23 pmv23 cdv23 ctv23 : Value} {f__law_due : Addr} {odv24 anv24 : Option Addr} {slv24 : Array (Option Value)} {ocv24 kVv24 dcv24 pmv24 cdv24 ctv24 : Value} {f__law_heard : Addr} {odv25 anv25 : Option Addr} {slv25 : Array (Option Value)} {ocv25 kVv25 dcv25 pmv25 cdv25 ctv25 : Value} {f_law : Addr} {odv26 anv26 : Option Addr} {slv26 : Array (Option Value)} {ocv26 kVv26 dcv26 pmv26 ctv26 : Value} {cl0 Pt : Addr} {ddl : Option Addr} {vsl : Array Value} {sll : Array (Option Value)}
    (n_Kind : PySem.W.nsIn K mainGlobals "Kind" = some (some (.ref C)))
    (n_BitError : PySem.W.nsIn K mainGlobals "BitError" = some (some (.ref BE)))
    (no_int : PySem.W.nsIn K mainGlobals "int" = some none)
    (no_len : PySem.W.nsIn K mainGlobals "len" = some none)
    (no_abs : PySem.W.nsIn K mainGlobals "abs" = some none)
    (no_list : PySem.W.nsIn K mainGlobals "list" = some none)
    (no_repr : PySem.W.nsIn K mainGlobals "repr" = some none)
    (no_range : PySem.W.nsIn K mainGlobals "range" = some none)
    (no_str : PySem.W.nsIn K mainGlobals "str" = some none)
    (no_zip : PySem.W.nsIn K mainGlobals "zip" = some none)
    (no_isinstance : PySem.W.nsIn K mainGlobals "isinstance" = some none)
    (no_ValueError : PySem.W.nsIn K mainGlobals "ValueError" = some none)
    (no_super : PySem.W.nsIn K mainGlobals "super" = some none)
    (pg : PySem.W.plainGet K C Str.empty = true)
    (hd : PySem.W.hasDictIn K C = true)
    (po : PySem.W.plainOver K C = true)
    (fd_C_setattr : PySem.W.findIn K (.ref C) "__setattr__" = some (some (.builtin "object.__setattr__")))
    (fd_C_reading : PySem.W.findIn K (.ref C) "reading" = some none)
    (fd_C_writing : PySem.W.findIn K (.ref C) "writing" = some none)
    (fd_C_device : PySem.W.findIn K (.ref C) "device" = some none)
    (fd_C_states : PySem.W.findIn K (.ref C) "states" = some none)
    (fd_C_class : PySem.W.findIn K (.ref C) "__class__" = some (some (.builtin "object.__class__")))
    (fd_C_ne : PySem.W.findIn K (.ref C) "__ne__" = some (some (.builtin "object.__ne__")))
    (isG : PySem.W.specialIn K (.builtin "object.__class__") "__get__" = some (some (.builtin "getset_descriptor.__get__")))
    (isT : PySem.W.takesIn K (.builtin "object.__class__") = some true)
    (isM : PySem.W.mroIn K C (.type "object") = some true)
    (mk : PySem.W.makesIn K C = true)
    (kc : PySem.W.keepIn K (.ref C) = true)
    (mcT : PySem.W.typeIn K (.ref C) = some mc)
    (rdI : PySem.W.readsIn K C mc = true)
    (gaI : PySem.W.specialIn K (.ref C) "__getattribute__" = some (some (.builtin "type.__getattribute__")))
    (tyC : PySem.W.typeIn K (.ref C) = some (.type "type"))
    (sBB : PySem.W.subIn K (.ref BE) (.type "BaseException") = some true)
    (hBE : PySem.W.hasDictIn K BE = true)
    (tBE : PySem.W.typeIn K (.ref BE) = some (.type "type"))
    (sn_tuple : PySem.W.subIn K (.type "tuple") (.ref C) = some false)
    (nf_tuple : PySem.W.notFirst K C (.type "tuple") = true)
    (sn_str : PySem.W.subIn K (.type "str") (.ref C) = some false)
    (nf_str : PySem.W.notFirst K C (.type "str") = true)
    (sn_list : PySem.W.subIn K (.type "list") (.ref C) = some false)
    (nf_list : PySem.W.notFirst K C (.type "list") = true)
    (v_READINGS : PySem.W.findCls K (.ref C) mc "READINGS" = some (.val (.ref aR)))
    (q_aR : K.lookup aR = some ⟨.type "tuple", ddt1, .seq #[.str "keep" u2, .str "take" u3] nnt1, sst1⟩)
    (v_WRITINGS : PySem.W.findCls K (.ref C) mc "WRITINGS" = some (.val (.ref bW)))
    (q_bW : K.lookup bW = some ⟨.type "tuple", ddt4, .seq #[.str "store" u5, .str "clear1" u6, .str "clear0" u7, .str "set1" u8, .str "flip1" u9, .str "once" u10, .str "none" u11] nnt4, sst4⟩)
    (v_DEVICES : PySem.W.findCls K (.ref C) mc "DEVICES" = some (.val (.ref aD)))
    (q_aD : K.lookup aD = some ⟨.type "tuple", ddt12, .seq #[.str "still" u13, .str "raise" u14, .str "end" u15, .str "drift" u16] nnt12, sst12⟩)
    (n_InvalidWidth : PySem.W.nsIn K mainGlobals "InvalidWidth" = some (some (.ref E0)))
    (n_InvalidLane : PySem.W.nsIn K mainGlobals "InvalidLane" = some (some (.ref E1)))
    (n_InvalidWord : PySem.W.nsIn K mainGlobals "InvalidWord" = some (some (.ref E2)))
    (n_InvalidShift : PySem.W.nsIn K mainGlobals "InvalidShift" = some (some (.ref E3)))
    (n_InvalidKind : PySem.W.nsIn K mainGlobals "InvalidKind" = some (some (.ref E4)))
    (n_InvalidLetters : PySem.W.nsIn K mainGlobals "InvalidLetters" = some (some (.ref E5)))
    (hD0 : PySem.W.hasDictIn K E0 = true)
    (ty0 : PySem.W.typeIn K (.ref E0) = some (.type "type"))
    (hD1 : PySem.W.hasDictIn K E1 = true)
    (ty1 : PySem.W.typeIn K (.ref E1) = some (.type "type"))
    (hD2 : PySem.W.hasDictIn K E2 = true)
    (ty2 : PySem.W.typeIn K (.ref E2) = some (.type "type"))
    (hD3 : PySem.W.hasDictIn K E3 = true)
    (ty3 : PySem.W.typeIn K (.ref E3) = some (.type "type"))
    (hD4 : PySem.W.hasDictIn K E4 = true)
    (ty4 : PySem.W.typeIn K (.ref E4) = some (.type "type"))
    (hD5 : PySem.W.hasDictIn K E5 = true)
    (ty5 : PySem.W.typeIn K (.ref E5) = some (.type "type"))
    (sE0 : PySem.W.subIn K (.ref E0) (.ref BE) = some true)
    (fd_E0_getattribute : PySem.W.findIn K (.ref E0) "__getattribute__" = some (some (.builtin "BaseException.__getattribute__")))
    (fd_E0_getattr : PySem.W.findIn K (.ref E0) "__getattr__" = some none)
    (sB0 : PySem.W.subIn K (.ref E0) (.type "BaseException") = some true)
    (fd_E0_class : PySem.W.findIn K (.ref E0) "__class__" = some (some (.builtin "object.__class__")))
    (mO0 : PySem.W.mroIn K E0 (.type "object") = some true)
    (fd_E0_value : PySem.W.findIn K (.ref E0) "value" = some none)
    (sV0 : PySem.W.subIn K (.ref E0) (.type "ValueError") = some true)
    (s01 : PySem.W.subIn K (.ref E0) (.ref E1) = some false)
    (ne01 : (Value.ref E0 == Value.ref E1) = false)
    (s02 : PySem.W.subIn K (.ref E0) (.ref E2) = some false)
    (ne02 : (Value.ref E0 == Value.ref E2) = false)
    (s03 : PySem.W.subIn K (.ref E0) (.ref E3) = some false)
    (ne03 : (Value.ref E0 == Value.ref E3) = false)
    (s04 : PySem.W.subIn K (.ref E0) (.ref E4) = some false)
    (ne04 : (Value.ref E0 == Value.ref E4) = false)
    (s05 : PySem.W.subIn K (.ref E0) (.ref E5) = some false)
    (ne05 : (Value.ref E0 == Value.ref E5) = false)
    (sE1 : PySem.W.subIn K (.ref E1) (.ref BE) = some true)
    (fd_E1_getattribute : PySem.W.findIn K (.ref E1) "__getattribute__" = some (some (.builtin "BaseException.__getattribute__")))
    (fd_E1_getattr : PySem.W.findIn K (.ref E1) "__getattr__" = some none)
    (sB1 : PySem.W.subIn K (.ref E1) (.type "BaseException") = some true)
    (fd_E1_class : PySem.W.findIn K (.ref E1) "__class__" = some (some (.builtin "object.__class__")))
    (mO1 : PySem.W.mroIn K E1 (.type "object") = some true)
    (fd_E1_value : PySem.W.findIn K (.ref E1) "value" = some none)
    (sV1 : PySem.W.subIn K (.ref E1) (.type "ValueError") = some true)
    (s10 : PySem.W.subIn K (.ref E1) (.ref E0) = some false)
    (ne10 : (Value.ref E1 == Value.ref E0) = false)
    (s12 : PySem.W.subIn K (.ref E1) (.ref E2) = some false)
    (ne12 : (Value.ref E1 == Value.ref E2) = false)
    (s13 : PySem.W.subIn K (.ref E1) (.ref E3) = some false)
    (ne13 : (Value.ref E1 == Value.ref E3) = false)
    (s14 : PySem.W.subIn K (.ref E1) (.ref E4) = some false)
    (ne14 : (Value.ref E1 == Value.ref E4) = false)
    (s15 : PySem.W.subIn K (.ref E1) (.ref E5) = some false)
    (ne15 : (Value.ref E1 == Value.ref E5) = false)
    (sE2 : PySem.W.subIn K (.ref E2) (.ref BE) = some true)
    (fd_E2_getattribute : PySem.W.findIn K (.ref E2) "__getattribute__" = some (some (.builtin "BaseException.__getattribute__")))
    (fd_E2_getattr : PySem.W.findIn K (.ref E2) "__getattr__" = some none)
    (sB2 : PySem.W.subIn K (.ref E2) (.type "BaseException") = some true)
    (fd_E2_class : PySem.W.findIn K (.ref E2) "__class__" = some (some (.builtin "object.__class__")))
    (mO2 : PySem.W.mroIn K E2 (.type "object") = some true)
    (fd_E2_value : PySem.W.findIn K (.ref E2) "value" = some none)
    (sV2 : PySem.W.subIn K (.ref E2) (.type "ValueError") = some true)
    (s20 : PySem.W.subIn K (.ref E2) (.ref E0) = some false)
    (ne20 : (Value.ref E2 == Value.ref E0) = false)
    (s21 : PySem.W.subIn K (.ref E2) (.ref E1) = some false)
    (ne21 : (Value.ref E2 == Value.ref E1) = false)
    (s23 : PySem.W.subIn K (.ref E2) (.ref E3) = some false)
    (ne23 : (Value.ref E2 == Value.ref E3) = false)
    (s24 : PySem.W.subIn K (.ref E2) (.ref E4) = some false)
    (ne24 : (Value.ref E2 == Value.ref E4) = false)
    (s25 : PySem.W.subIn K (.ref E2) (.ref E5) = some false)
    (ne25 : (Value.ref E2 == Value.ref E5) = false)
    (sE3 : PySem.W.subIn K (.ref E3) (.ref BE) = some true)
    (fd_E3_getattribute : PySem.W.findIn K (.ref E3) "__getattribute__" = some (some (.builtin "BaseException.__getattribute__")))
    (fd_E3_getattr : PySem.W.findIn K (.ref E3) "__getattr__" = some none)
    (sB3 : PySem.W.subIn K (.ref E3) (.type "BaseException") = some true)
    (fd_E3_class : PySem.W.findIn K (.ref E3) "__class__" = some (some (.builtin "object.__class__")))
    (mO3 : PySem.W.mroIn K E3 (.type "object") = some true)
    (fd_E3_value : PySem.W.findIn K (.ref E3) "value" = some none)
    (sV3 : PySem.W.subIn K (.ref E3) (.type "ValueError") = some true)
    (s30 : PySem.W.subIn K (.ref E3) (.ref E0) = some false)
    (ne30 : (Value.ref E3 == Value.ref E0) = false)
    (s31 : PySem.W.subIn K (.ref E3) (.ref E1) = some false)
    (ne31 : (Value.ref E3 == Value.ref E1) = false)
    (s32 : PySem.W.subIn K (.ref E3) (.ref E2) = some false)
    (ne32 : (Value.ref E3 == Value.ref E2) = false)
    (s34 : PySem.W.subIn K (.ref E3) (.ref E4) = some false)
    (ne34 : (Value.ref E3 == Value.ref E4) = false)
    (s35 : PySem.W.subIn K (.ref E3) (.ref E5) = some false)
    (ne35 : (Value.ref E3 == Value.ref E5) = false)
    (sE4 : PySem.W.subIn K (.ref E4) (.ref BE) = some true)
    (fd_E4_getattribute : PySem.W.findIn K (.ref E4) "__getattribute__" = some (some (.builtin "BaseException.__getattribute__")))
    (fd_E4_getattr : PySem.W.findIn K (.ref E4) "__getattr__" = some none)
    (sB4 : PySem.W.subIn K (.ref E4) (.type "BaseException") = some true)
    (fd_E4_class : PySem.W.findIn K (.ref E4) "__class__" = some (some (.builtin "object.__class__")))
    (mO4 : PySem.W.mroIn K E4 (.type "object") = some true)
    (fd_E4_value : PySem.W.findIn K (.ref E4) "value" = some none)
    (sV4 : PySem.W.subIn K (.ref E4) (.type "ValueError") = some true)
    (s40 : PySem.W.subIn K (.ref E4) (.ref E0) = some false)
    (ne40 : (Value.ref E4 == Value.ref E0) = false)
    (s41 : PySem.W.subIn K (.ref E4) (.ref E1) = some false)
    (ne41 : (Value.ref E4 == Value.ref E1) = false)
    (s42 : PySem.W.subIn K (.ref E4) (.ref E2) = some false)
    (ne42 : (Value.ref E4 == Value.ref E2) = false)
    (s43 : PySem.W.subIn K (.ref E4) (.ref E3) = some false)
    (ne43 : (Value.ref E4 == Value.ref E3) = false)
    (s45 : PySem.W.subIn K (.ref E4) (.ref E5) = some false)
    (ne45 : (Value.ref E4 == Value.ref E5) = false)
    (clE : K.lookup E4 = some (excClassObj nmE qE E4 NE bsE bmE true snE subE abE colE ddE j0 j1 j2 j3 j5 "ValueError.__new__"))
    (veE : PySem.HandSPX.refsVE bmE = true)
    (fd_E4_setattr : PySem.W.findIn K (.ref E4) "__setattr__" = some (some (.builtin "object.__setattr__")))
    (tyE : PySem.W.typeIn K (.ref E4) = some (.type "type"))
    (kE : PySem.W.keepIn K (.ref E4) = true)
    (iniE : PySem.W.findIn K (.ref E4) "__init__" = some (some (.ref fI)))
    (fnE : PySem.W.typeIn K (.ref fI) = some (.type "function"))
    (lE : K.lookup fI = some ⟨ocE, odE, .func (PySem.W.ksFn "__init__" "InvalidKind.__init__" (defArgs s_InvalidKind___init__) (defBody s_InvalidKind___init__) (defScope s_InvalidKind___init__) .none kVE dcE pmE anE (.ref cda) ctE cc), slE⟩)
    (cE : PySem.W.codeIn K (.ref cda) "InvalidKind.__init__" = true)
    (lC : K.lookup cda = some ⟨ccl, cdd, .fields vsE, ccs⟩)
    (vE : vsE[2]? = some (.str fileE tfE))
    (fE : ((l.prog.main.file : Str) == fileE) = true)
    (lcc : K.lookup cc = some ⟨ccv, cld, .cell (some (.ref E4)), csl⟩)
    (mE : PySem.W.mroIn K E4 (.ref E4) = some true)
    (fBE : PySem.W.findIn K (.ref BE) "__init__" = some (some (.builtin "ValueError.__init__")))
    (cBE : PySem.W.clsIn K BE = some cdB)
    (mBE : bmE = cdB.mro)
    (opq : PySem.W.nsIn K cStatics "thirdparty.any" = some none)
    (topE : (l.prog.main.scope.names.lookup ("super" : Str)).isSome = false)
    (a_Kind___init__ : PySem.W.findIn K (.ref C) "__init__" = some (some (.ref m_Kind_init)))
    (i_Kind___init__ : PySem.W.isFn K (.ref m_Kind_init) = true)
    (l_Kind___init__ : K.lookup m_Kind_init = some ⟨ocv17, odv17, .func (PySem.W.fnOf "__init__" "Kind.__init__" (defArgs s_Kind___init__) (defBody s_Kind___init__) (defScope s_Kind___init__) .none kVv17 dcv17 pmv17 anv17 cdv17 ctv17), slv17⟩)
    (c_Kind___init__ : PySem.W.codeIn K cdv17 "Kind.__init__" = true)
    (k_Kind___init__ : PySem.W.keepIn K (.ref m_Kind_init) = true)
    (a_Kind___eq__ : PySem.W.findIn K (.ref C) "__eq__" = some (some (.ref m_Kind_eq)))
    (i_Kind___eq__ : PySem.W.isFn K (.ref m_Kind_eq) = true)
    (l_Kind___eq__ : K.lookup m_Kind_eq = some ⟨ocv18, odv18, .func (PySem.W.fnOf "__eq__" "Kind.__eq__" (defArgs s_Kind___eq__) (defBody s_Kind___eq__) (defScope s_Kind___eq__) .none kVv18 dcv18 pmv18 anv18 cdv18 ctv18), slv18⟩)
    (c_Kind___eq__ : PySem.W.codeIn K cdv18 "Kind.__eq__" = true)
    (k_Kind___eq__ : PySem.W.keepIn K (.ref m_Kind_eq) = true)
    (a_Kind___str__ : PySem.W.findIn K (.ref C) "__str__" = some (some (.ref m_Kind_str)))
    (i_Kind___str__ : PySem.W.isFn K (.ref m_Kind_str) = true)
    (l_Kind___str__ : K.lookup m_Kind_str = some ⟨ocv19, odv19, .func (PySem.W.fnOf "__str__" "Kind.__str__" (defArgs s_Kind___str__) (defBody s_Kind___str__) (defScope s_Kind___str__) .none kVv19 dcv19 pmv19 anv19 cdv19 ctv19), slv19⟩)
    (c_Kind___str__ : PySem.W.codeIn K cdv19 "Kind.__str__" = true)
    (k_Kind___str__ : PySem.W.keepIn K (.ref m_Kind_str) = true)
    (n__law_pen : PySem.W.nsIn K mainGlobals "_law_pen" = some (some (.ref f__law_pen)))
    (l__law_pen : K.lookup f__law_pen = some ⟨ocv20, odv20, .func (PySem.W.fnOf "_law_pen" "_law_pen" (defArgs s__law_pen) (defBody s__law_pen) (defScope s__law_pen) .none kVv20 dcv20 pmv20 anv20 cdv20 ctv20), slv20⟩)
    (c__law_pen : PySem.W.codeIn K cdv20 "_law_pen" = true)
    (k__law_pen : PySem.W.keepIn K (.ref f__law_pen) = true)
    (n__law_draw : PySem.W.nsIn K mainGlobals "_law_draw" = some (some (.ref f__law_draw)))
    (l__law_draw : K.lookup f__law_draw = some ⟨ocv21, odv21, .func (PySem.W.fnOf "_law_draw" "_law_draw" (defArgs s__law_draw) (defBody s__law_draw) (defScope s__law_draw) .none kVv21 dcv21 pmv21 anv21 cdv21 ctv21), slv21⟩)
    (c__law_draw : PySem.W.codeIn K cdv21 "_law_draw" = true)
    (k__law_draw : PySem.W.keepIn K (.ref f__law_draw) = true)
    (n__law_words : PySem.W.nsIn K mainGlobals "_law_words" = some (some (.ref f__law_words)))
    (l__law_words : K.lookup f__law_words = some ⟨ocv22, odv22, .func (PySem.W.fnOf "_law_words" "_law_words" (defArgs s__law_words) (defBody s__law_words) (defScope s__law_words) .none kVv22 dcv22 pmv22 anv22 cdv22 ctv22), slv22⟩)
    (c__law_words : PySem.W.codeIn K cdv22 "_law_words" = true)
    (k__law_words : PySem.W.keepIn K (.ref f__law_words) = true)
    (n__law_odd : PySem.W.nsIn K mainGlobals "_law_odd" = some (some (.ref f__law_odd)))
    (l__law_odd : K.lookup f__law_odd = some ⟨ocv23, odv23, .func (PySem.W.fnOf "_law_odd" "_law_odd" (defArgs s__law_odd) (defBody s__law_odd) (defScope s__law_odd) .none kVv23 dcv23 pmv23 anv23 cdv23 ctv23), slv23⟩)
    (c__law_odd : PySem.W.codeIn K cdv23 "_law_odd" = true)
    (k__law_odd : PySem.W.keepIn K (.ref f__law_odd) = true)
    (n__law_due : PySem.W.nsIn K mainGlobals "_law_due" = some (some (.ref f__law_due)))
    (l__law_due : K.lookup f__law_due = some ⟨ocv24, odv24, .func (PySem.W.fnOf "_law_due" "_law_due" (defArgs s__law_due) (defBody s__law_due) (defScope s__law_due) .none kVv24 dcv24 pmv24 anv24 cdv24 ctv24), slv24⟩)
    (c__law_due : PySem.W.codeIn K cdv24 "_law_due" = true)
    (k__law_due : PySem.W.keepIn K (.ref f__law_due) = true)
    (n__law_heard : PySem.W.nsIn K mainGlobals "_law_heard" = some (some (.ref f__law_heard)))
    (l__law_heard : K.lookup f__law_heard = some ⟨ocv25, odv25, .func (PySem.W.fnOf "_law_heard" "_law_heard" (defArgs s__law_heard) (defBody s__law_heard) (defScope s__law_heard) .none kVv25 dcv25 pmv25 anv25 cdv25 ctv25), slv25⟩)
    (c__law_heard : PySem.W.codeIn K cdv25 "_law_heard" = true)
    (k__law_heard : PySem.W.keepIn K (.ref f__law_heard) = true)
    (n_law : PySem.W.nsIn K mainGlobals "law" = some (some (.ref f_law)))
    (l_law : K.lookup f_law = some ⟨ocv26, odv26, .func (PySem.W.fnOf "law" "law" (defArgs s_law) (defBody s_law) (defScope s_law) .none kVv26 dcv26 pmv26 anv26 (.ref cl0) ctv26), slv26⟩)
    (c_law : PySem.W.codeIn K (.ref cl0) "law" = true)
    (k_law : PySem.W.keepIn K (.ref f_law) = true)
    (lcl : K.lookup cl0 = some ⟨.type "code", ddl, .fields vsl, sll⟩)
    (v11 : vsl[11]? = some (.ref Pt))
    (hdl : PySem.W.codeHdIn K cl0 Pt = true)
    (nPt : K.lookup Pt = none) :
    ∃ (fd : FuncData) (cs : List (Addr × Addr)) (sp : Sp), (∀ p ∈ cs, h.get? p.2 = some { cls := .none, data := .fields #[] }) ∧ (∀ p ∈ cs, K.lookup p.2 = none) ∧ (∀ p ∈ cs, PySem.W.CodeHd h p.1 p.2) ∧ (∀ (s : Shared) (v : Value), BindsTo s fd ⟨[v], []⟩ [("_law_script", v)]) ∧
      (∀ (H : Hp) (a : Addr) (ns : List Int), ns.length ≤ 63 → (∀ z ∈ ns, Builtin.Int.intBits z ≤ 1048576) → (∀ p ∈ cs, H p.2 = some (.tbl #[])) → SqL K H a (ns.map V.int) → sp [.ref a] H (fun v _ => v = .bl true) fun _ _ _ => False) ∧
      ∀ base : Heap, K.In base → base.Ns mainGlobals mg → (∀ p ∈ cs, LamX.TabB base mg p.1 p.2) → Gd l.prog w K mg base CX0 6 fa fd ["_law_script"] sp := by
  have e := hfa.symm.trans (PySem.W.mg_of X G n_law)
  cases e
  have B : B8 mg := { toBi := ⟨PySem.W.mg_none_of X G no_int, PySem.W.mg_none_of X G no_len, PySem.W.mg_none_of X G no_abs, PySem.W.mg_none_of X G no_list, PySem.W.mg_none_of X G no_repr, PySem.W.mg_none_of X G no_range, PySem.W.mg_none_of X G no_str⟩, g_zip := PySem.W.mg_none_of X G no_zip, g_isinstance := PySem.W.mg_none_of X G no_isinstance }
  have T : K8 K mg C mc := {
    g_Kind := PySem.W.mg_of X G n_Kind
    g_isinstance := PySem.W.mg_none_of X G no_isinstance
    cl := ⟨pg, hd, po, fd_C_setattr⟩
    nR := fd_C_reading
    nW := fd_C_writing
    nD := fd_C_device
    nS := fd_C_states
    rd := ⟨rdI, gaI⟩
    cR := ⟨aR, ⟨v_READINGS, rfl⟩, ktup q_aR rfl (.cons ⟨_, rfl⟩ (.cons ⟨_, rfl⟩ (.nil)))⟩
    cW := ⟨bW, ⟨v_WRITINGS, rfl⟩, ktup q_bW rfl (.cons ⟨_, rfl⟩ (.cons ⟨_, rfl⟩ (.cons ⟨_, rfl⟩ (.cons ⟨_, rfl⟩ (.cons ⟨_, rfl⟩ (.cons ⟨_, rfl⟩ (.cons ⟨_, rfl⟩ (.nil))))))))⟩
    cD := ⟨aD, ⟨v_DEVICES, rfl⟩, ktup q_aD rfl (.cons ⟨_, rfl⟩ (.cons ⟨_, rfl⟩ (.cons ⟨_, rfl⟩ (.cons ⟨_, rfl⟩ (.nil)))))⟩
    isC := fd_C_class
    isG := isG
    isT := isT
    isM := isM }
  let ce : Nat → Addr := fun i => match i with | 0 => E0 | 1 => E1 | 2 => E2 | 3 => E3 | 4 => E4 | _ => E5
  have ER : Er K mg BE ce := {
    g_BitError := PySem.W.mg_of X G n_BitError
    g_ValueError := PySem.W.mg_none_of X G no_ValueError
    g_isinstance := PySem.W.mg_none_of X G no_isinstance
    g_repr := PySem.W.mg_none_of X G no_repr
    g_ce := fun i hi => match i, hi with | 0, _ => PySem.W.mg_of X G n_InvalidWidth | 1, _ => PySem.W.mg_of X G n_InvalidLane | 2, _ => PySem.W.mg_of X G n_InvalidWord | 3, _ => PySem.W.mg_of X G n_InvalidShift | 4, _ => PySem.W.mg_of X G n_InvalidKind | 5, _ => PySem.W.mg_of X G n_InvalidLetters
    exm := fun i hi => match i, hi with | 0, _ => PySem.W.exm_ref sBB hBE tBE sE0 | 1, _ => PySem.W.exm_ref sBB hBE tBE sE1 | 2, _ => PySem.W.exm_ref sBB hBE tBE sE2 | 3, _ => PySem.W.exm_ref sBB hBE tBE sE3 | 4, _ => PySem.W.exm_ref sBB hBE tBE sE4
    ec := fun i hi => match i, hi with | 0, _ => ⟨fd_E0_getattribute, fd_E0_getattr, sB0, hD0, fd_E0_class, isG, isT, mO0⟩ | 1, _ => ⟨fd_E1_getattribute, fd_E1_getattr, sB1, hD1, fd_E1_class, isG, isT, mO1⟩ | 2, _ => ⟨fd_E2_getattribute, fd_E2_getattr, sB2, hD2, fd_E2_class, isG, isT, mO2⟩ | 3, _ => ⟨fd_E3_getattribute, fd_E3_getattr, sB3, hD3, fd_E3_class, isG, isT, mO3⟩ | 4, _ => ⟨fd_E4_getattribute, fd_E4_getattr, sB4, hD4, fd_E4_class, isG, isT, mO4⟩
    xf := fun i hi => match i, hi with | 0, _ => ⟨fd_E0_getattribute, fd_E0_getattr, sB0, hD0⟩ | 1, _ => ⟨fd_E1_getattribute, fd_E1_getattr, sB1, hD1⟩ | 2, _ => ⟨fd_E2_getattribute, fd_E2_getattr, sB2, hD2⟩ | 3, _ => ⟨fd_E3_getattribute, fd_E3_getattr, sB3, hD3⟩ | 4, _ => ⟨fd_E4_getattribute, fd_E4_getattr, sB4, hD4⟩
    nv := fun i hi => match i, hi with | 0, _ => fd_E0_value | 1, _ => fd_E1_value | 2, _ => fd_E2_value | 3, _ => fd_E3_value | 4, _ => fd_E4_value
    kit := fun i j hi hj => match i, j, hi, hj with | 0, 0, _, _ => kit_same | 0, 1, _, _ => kit_own hD1 ty1 ne01 s01 | 0, 2, _, _ => kit_own hD2 ty2 ne02 s02 | 0, 3, _, _ => kit_own hD3 ty3 ne03 s03 | 0, 4, _, _ => kit_own hD4 ty4 ne04 s04 | 0, 5, _, _ => kit_own hD5 ty5 ne05 s05 | 1, 0, _, _ => kit_own hD0 ty0 ne10 s10 | 1, 1, _, _ => kit_same | 1, 2, _, _ => kit_own hD2 ty2 ne12 s12 | 1, 3, _, _ => kit_own hD3 ty3 ne13 s13 | 1, 4, _, _ => kit_own hD4 ty4 ne14 s14 | 1, 5, _, _ => kit_own hD5 ty5 ne15 s15 | 2, 0, _, _ => kit_own hD0 ty0 ne20 s20 | 2, 1, _, _ => kit_own hD1 ty1 ne21 s21 | 2, 2, _, _ => kit_same | 2, 3, _, _ => kit_own hD3 ty3 ne23 s23 | 2, 4, _, _ => kit_own hD4 ty4 ne24 s24 | 2, 5, _, _ => kit_own hD5 ty5 ne25 s25 | 3, 0, _, _ => kit_own hD0 ty0 ne30 s30 | 3, 1, _, _ => kit_own hD1 ty1 ne31 s31 | 3, 2, _, _ => kit_own hD2 ty2 ne32 s32 | 3, 3, _, _ => kit_same | 3, 4, _, _ => kit_own hD4 ty4 ne34 s34 | 3, 5, _, _ => kit_own hD5 ty5 ne35 s35 | 4, 0, _, _ => kit_own hD0 ty0 ne40 s40 | 4, 1, _, _ => kit_own hD1 ty1 ne41 s41 | 4, 2, _, _ => kit_own hD2 ty2 ne42 s42 | 4, 3, _, _ => kit_own hD3 ty3 ne43 s43 | 4, 4, _, _ => kit_same | 4, 5, _, _ => kit_own hD5 ty5 ne45 s45
    ve := fun i hi => match i, hi with | 0, _ => kit_ve sV0 | 1, _ => kit_ve sV1 | 2, _ => kit_ve sV2 | 3, _ => kit_ve sV3 | 4, _ => kit_ve sV4 }
  have TE : ErrC l.prog K E4 fI "InvalidKind.__init__" "value" "value" (defArgs s_InvalidKind___init__) (defBody s_InvalidKind___init__) (defScope s_InvalidKind___init__) := {
    cls := ⟨⟨_, _, _, _, _, _, _, _, _, _, _, _, _, _, _, clE, veE⟩, fd_E4_setattr, sB4, tyE, kE⟩
    ini := iniE
    fn := fnE
    fun_ := ⟨_, _, _, _, _, _, _, _, _, _, _, _, _, _, _, _, _, _, _, lE, cE, lC, vE, fE, lcc⟩
    self_ := mE
    up := sup_up clE cBE mBE fBE
    sub := sV4
    opq := opq
    nosup := no_super
    top := topE
    nofld := fd_E4_value }
  obtain ⟨tabE, codeE⟩ := tab0 X tabs hr hfa l_law rfl hdl
  refine ⟨PySem.W.fnOf "law" "law" (defArgs s_law) (defBody s_law) (defScope s_law) .none kVv26 dcv26 pmv26 anv26 (.ref cl0) ctv26, [(cl0, Pt)], spLaw K Pt, fun p hp => ?_, fun p hp => ?_, fun p hp => ?_, fun s v => .of_eq rfl, fun H a ns hl _ hT hS => ⟨a, ns, rfl, hS, hl, hT _ (List.mem_singleton.mpr rfl), fun _ => rfl⟩, fun base _ _ TB => ?_⟩
  · rw [List.mem_singleton.mp hp]; exact tabE
  · rw [List.mem_singleton.mp hp]; exact nPt
  · rw [List.mem_singleton.mp hp]; exact codeE
  have D_law_pen := defAt_of X G n__law_pen l__law_pen c__law_pen k__law_pen bd__law_pen
  have D_law_draw := defAt_of X G n__law_draw l__law_draw c__law_draw k__law_draw bd__law_draw
  have D_law_words := defAt_of X G n__law_words l__law_words c__law_words k__law_words bd__law_words
  have D_law_odd := defAt_of X G n__law_odd l__law_odd c__law_odd k__law_odd bd__law_odd
  have D_law_due := defAt_of X G n__law_due l__law_due c__law_due k__law_due bd__law_due
  have D_law_heard := defAt_of X G n__law_heard l__law_heard c__law_heard k__law_heard bd__law_heard
  have M_init := metAt_of a_Kind___init__ i_Kind___init__ l_Kind___init__ c_Kind___init__ k_Kind___init__ bd_Kind___init__
  have M_eq := metAt_of a_Kind___eq__ i_Kind___eq__ l_Kind___eq__ c_Kind___eq__ k_Kind___eq__ bd_Kind___eq__
  have M_str := metAt_of a_Kind___str__ i_Kind___str__ l_Kind___str__ c_Kind___str__ k_Kind___str__ bd_Kind___str__
  obtain ⟨fd1, x1, F1, b1, G1⟩ := ok_IK (P := l.prog) (w := w) (base := base) M_init T (PySem.W.mg_of X G n_InvalidKind) TE errX
  obtain ⟨fd6, x6, F6, b6, G6⟩ := ok_EQ (P := l.prog) (w := w) (base := base) M_eq T
  obtain ⟨fd7, x7, F7, b7, G7⟩ := ok_ST (P := l.prog) (w := w) (base := base) M_str T
  have c1 := ok_draw (P := l.prog) (w := w) (base := base) D_law_draw B.toBi
  have c2 := ok_pen (P := l.prog) (w := w) (base := base) D_law_pen B.toBi
  have c3 := ok_words (P := l.prog) (w := w) (base := base) D_law_words c1
  have c4 := ok_odd (P := l.prog) (w := w) (base := base) D_law_odd c1
  have c5 := ok_due (P := l.prog) (w := w) (base := base) D_law_due B
  exact ok_law (ce := ce) l_law c_law (TB _ (List.mem_singleton.mpr rfl)) T B ER c2 c1 c3 c4 c5 D_law_heard ⟨mk, a_Kind___init__, i_Kind___init__, kc⟩ G1 b1 G7 b7 a_Kind___str__ i_Kind___str__ G6 b6 a_Kind___eq__ i_Kind___eq__ fd_C_ne
    (fun n hn => by rcases hn with rfl | rfl | rfl; exact ⟨kit_own hd tyC rfl sn_tuple, nf_tuple⟩; exact ⟨kit_own hd tyC rfl sn_str, nf_str⟩; exact ⟨kit_own hd tyC rfl sn_list, nf_list⟩)
end Law
open PySem PySem.W PyProof.Rows
set_option maxRecDepth 100000 in
set_option maxHeartbeats 0 in
theorem PySem.Challenge.cw_keptbits_k08_kinds_refused_and_compared_holds : PySem.Challenge.rw_keptbits_k08_kinds_refused_and_compared.Holds := by
  w_on; o_law; k_head; (case hw => w_witness2)
  k_fill
  refine KG.walk_gdT (CX := L2.CX0) (k := 6) (n := 63) (x := "_law_script") (l := PySem.Challenge.rw_keptbits_k08_kinds_refused_and_compared) rfl (by decide) rfl ⟨rfl, by decide, by decide⟩ (fun w h Y => PySem.W.km_in_of Y) ?F ?g2
  case g2 => exact fun _ _ _ _ z => z
  case F =>
    intro w mg fa h _ KX G hmg tabs
    refine' Law.all KX G hmg tabs (by rfl) ?n_Kind ?n_BitError ?no_int ?no_len ?no_abs ?no_list ?no_repr ?no_range ?no_str ?no_zip ?no_isinstance ?no_ValueError ?no_super ?pg ?hd ?po ?fd_C_setattr ?fd_C_reading ?fd_C_writing ?fd_C_device ?fd_C_states ?fd_C_class ?fd_C_ne ?isG ?isT ?isM ?mk ?kc ?mcT ?rdI ?gaI ?tyC ?sBB ?hBE ?tBE ?sn_tuple ?nf_tuple ?sn_str ?nf_str ?sn_list ?nf_list ?v_READINGS ?q_aR ?v_WRITINGS ?q_bW ?v_DEVICES ?q_aD ?n_InvalidWidth ?n_InvalidLane ?n_InvalidWord ?n_InvalidShift ?n_InvalidKind ?n_InvalidLetters ?hD0 ?ty0 ?hD1 ?ty1 ?hD2 ?ty2 ?hD3 ?ty3 ?hD4 ?ty4 ?hD5 ?ty5 ?sE0 ?fd_E0_getattribute ?fd_E0_getattr ?sB0 ?fd_E0_class ?mO0 ?fd_E0_value ?sV0 ?s01 ?ne01 ?s02 ?ne02 ?s03 ?ne03 ?s04 ?ne04 ?s05 ?ne05 ?sE1 ?fd_E1_getattribute ?fd_E1_getattr ?sB1 ?fd_E1_class ?mO1 ?fd_E1_value ?sV1 ?s10 ?ne10 ?s12 ?ne12 ?s13 ?ne13 ?s14 ?ne14 ?s15 ?ne15 ?sE2 ?fd_E2_getattribute ?fd_E2_getattr ?sB2 ?fd_E2_class ?mO2 ?fd_E2_value ?sV2 ?s20 ?ne20 ?s21 ?ne21 ?s23 ?ne23 ?s24 ?ne24 ?s25 ?ne25 ?sE3 ?fd_E3_getattribute ?fd_E3_getattr ?sB3 ?fd_E3_class ?mO3 ?fd_E3_value ?sV3 ?s30 ?ne30 ?s31 ?ne31 ?s32 ?ne32 ?s34 ?ne34 ?s35 ?ne35 ?sE4 ?fd_E4_getattribute ?fd_E4_getattr ?sB4 ?fd_E4_class ?mO4 ?fd_E4_value ?sV4 ?s40 ?ne40 ?s41 ?ne41 ?s42 ?ne42 ?s43 ?ne43 ?s45 ?ne45 ?clE ?veE ?fd_E4_setattr ?tyE ?kE ?iniE ?fnE ?lE ?cE ?lC ?vE ?fE ?lcc ?mE ?fBE ?cBE ?mBE ?opq ?topE ?a_Kind___init__ ?i_Kind___init__ ?l_Kind___init__ ?c_Kind___init__ ?k_Kind___init__ ?a_Kind___eq__ ?i_Kind___eq__ ?l_Kind___eq__ ?c_Kind___eq__ ?k_Kind___eq__ ?a_Kind___str__ ?i_Kind___str__ ?l_Kind___str__ ?c_Kind___str__ ?k_Kind___str__ ?n__law_pen ?l__law_pen ?c__law_pen ?k__law_pen ?n__law_draw ?l__law_draw ?c__law_draw ?k__law_draw ?n__law_words ?l__law_words ?c__law_words ?k__law_words ?n__law_odd ?l__law_odd ?c__law_odd ?k__law_odd ?n__law_due ?l__law_due ?c__law_due ?k__law_due ?n__law_heard ?l__law_heard ?c__law_heard ?k__law_heard ?n_law ?l_law ?c_law ?k_law ?lcl ?v11 ?hdl ?nPt
    (case n_Kind => k_is)
    (case n_BitError => k_is)
    (case no_int => k_is)
    (case no_len => k_is)
    (case no_abs => k_is)
    (case no_list => k_is)
    (case no_repr => k_is)
    (case no_range => k_is)
    (case no_str => k_is)
    (case no_zip => k_is)
    (case no_isinstance => k_is)
    (case no_ValueError => k_is)
    (case no_super => k_is)
    (case pg => k_is)
    (case hd => k_is)
    (case po => k_is)
    (case fd_C_setattr => k_is)
    (case fd_C_reading => k_is)
    (case fd_C_writing => k_is)
    (case fd_C_device => k_is)
    (case fd_C_states => k_is)
    (case fd_C_class => k_is)
    (case fd_C_ne => k_is)
    (case isG => k_is)
    (case isT => k_is)
    (case isM => k_is)
    (case mk => k_is)
    (case kc => k_is)
    (case mcT => k_is)
    (case rdI => k_is)
    (case gaI => k_is)
    (case tyC => k_is)
    (case sBB => k_is)
    (case hBE => k_is)
    (case tBE => k_is)
    (case sn_tuple => k_is)
    (case nf_tuple => k_is)
    (case sn_str => k_is)
    (case nf_str => k_is)
    (case sn_list => k_is)
    (case nf_list => k_is)
    (case v_READINGS => k_is)
    (case q_aR => k_is)
    (case v_WRITINGS => k_is)
    (case q_bW => k_is)
    (case v_DEVICES => k_is)
    (case q_aD => k_is)
    (case n_InvalidWidth => k_is)
    (case n_InvalidLane => k_is)
    (case n_InvalidWord => k_is)
    (case n_InvalidShift => k_is)
    (case n_InvalidKind => k_is)
    (case n_InvalidLetters => k_is)
    (case hD0 => k_is)
    (case ty0 => k_is)
    (case hD1 => k_is)
    (case ty1 => k_is)
    (case hD2 => k_is)
    (case ty2 => k_is)
    (case hD3 => k_is)
    (case ty3 => k_is)
    (case hD4 => k_is)
    (case ty4 => k_is)
    (case hD5 => k_is)
    (case ty5 => k_is)
    (case sE0 => k_is)
    (case fd_E0_getattribute => k_is)
    (case fd_E0_getattr => k_is)
    (case sB0 => k_is)
    (case fd_E0_class => k_is)
    (case mO0 => k_is)
    (case fd_E0_value => k_is)
    (case sV0 => k_is)
    (case s01 => k_is)
    (case ne01 => rfl)
    (case s02 => k_is)
    (case ne02 => rfl)
    (case s03 => k_is)
    (case ne03 => rfl)
    (case s04 => k_is)
    (case ne04 => rfl)
    (case s05 => k_is)
    (case ne05 => rfl)
    (case sE1 => k_is)
    (case fd_E1_getattribute => k_is)
    (case fd_E1_getattr => k_is)
    (case sB1 => k_is)
    (case fd_E1_class => k_is)
    (case mO1 => k_is)
    (case fd_E1_value => k_is)
    (case sV1 => k_is)
    (case s10 => k_is)
    (case ne10 => rfl)
    (case s12 => k_is)
    (case ne12 => rfl)
    (case s13 => k_is)
    (case ne13 => rfl)
    (case s14 => k_is)
    (case ne14 => rfl)
    (case s15 => k_is)
    (case ne15 => rfl)
    (case sE2 => k_is)
    (case fd_E2_getattribute => k_is)
    (case fd_E2_getattr => k_is)
    (case sB2 => k_is)
    (case fd_E2_class => k_is)
    (case mO2 => k_is)
    (case fd_E2_value => k_is)
    (case sV2 => k_is)
    (case s20 => k_is)
    (case ne20 => rfl)
    (case s21 => k_is)
    (case ne21 => rfl)
    (case s23 => k_is)
    (case ne23 => rfl)
    (case s24 => k_is)
    (case ne24 => rfl)
    (case s25 => k_is)
    (case ne25 => rfl)
    (case sE3 => k_is)
    (case fd_E3_getattribute => k_is)
    (case fd_E3_getattr => k_is)
    (case sB3 => k_is)
    (case fd_E3_class => k_is)
    (case mO3 => k_is)
    (case fd_E3_value => k_is)
    (case sV3 => k_is)
    (case s30 => k_is)
    (case ne30 => rfl)
    (case s31 => k_is)
    (case ne31 => rfl)
    (case s32 => k_is)
    (case ne32 => rfl)
    (case s34 => k_is)
    (case ne34 => rfl)
    (case s35 => k_is)
    (case ne35 => rfl)
    (case sE4 => k_is)
    (case fd_E4_getattribute => k_is)
    (case fd_E4_getattr => k_is)
    (case sB4 => k_is)
    (case fd_E4_class => k_is)
    (case mO4 => k_is)
    (case fd_E4_value => k_is)
    (case sV4 => k_is)
    (case s40 => k_is)
    (case ne40 => rfl)
    (case s41 => k_is)
    (case ne41 => rfl)
    (case s42 => k_is)
    (case ne42 => rfl)
    (case s43 => k_is)
    (case ne43 => rfl)
    (case s45 => k_is)
    (case ne45 => rfl)
    (case clE => k_is)
    (case veE => rfl)
    (case fd_E4_setattr => k_is)
    (case tyE => k_is)
    (case kE => k_is)
    (case iniE => k_is)
    (case fnE => k_is)
    (case lE => k_is)
    (case cE => k_is)
    (case lC => k_is)
    (case vE => rfl)
    (case fE => rfl)
    (case lcc => k_is)
    (case mE => k_is)
    (case fBE => k_is)
    (case cBE => k_is)
    (case mBE => rfl)
    (case opq => k_is)
    (case topE => rfl)
    (case a_Kind___init__ => k_is)
    (case i_Kind___init__ => k_is)
    (case l_Kind___init__ => k_is)
    (case c_Kind___init__ => k_is)
    (case k_Kind___init__ => k_is)
    (case a_Kind___eq__ => k_is)
    (case i_Kind___eq__ => k_is)
    (case l_Kind___eq__ => k_is)
    (case c_Kind___eq__ => k_is)
    (case k_Kind___eq__ => k_is)
    (case a_Kind___str__ => k_is)
    (case i_Kind___str__ => k_is)
    (case l_Kind___str__ => k_is)
    (case c_Kind___str__ => k_is)
    (case k_Kind___str__ => k_is)
    (case n__law_pen => k_is)
    (case l__law_pen => k_is)
    (case c__law_pen => k_is)
    (case k__law_pen => k_is)
    (case n__law_draw => k_is)
    (case l__law_draw => k_is)
    (case c__law_draw => k_is)
    (case k__law_draw => k_is)
    (case n__law_words => k_is)
    (case l__law_words => k_is)
    (case c__law_words => k_is)
    (case k__law_words => k_is)
    (case n__law_odd => k_is)
    (case l__law_odd => k_is)
    (case c__law_odd => k_is)
    (case k__law_odd => k_is)
    (case n__law_due => k_is)
    (case l__law_due => k_is)
    (case c__law_due => k_is)
    (case k__law_due => k_is)
    (case n__law_heard => k_is)
    (case l__law_heard => k_is)
    (case c__law_heard => k_is)
    (case k__law_heard => k_is)
    (case n_law => k_is)
    (case l_law => k_is)
    (case c_law => k_is)
    (case k_law => k_is)
    (case lcl => k_is)
    (case v11 => rfl)
    (case hdl => kernel_rfl)
    (case nPt => kernel_rfl)
#print axioms PySem.Challenge.cw_keptbits_k08_kinds_refused_and_compared_holds
