import PyProof.Rows.All
import Wide.All
import OpenK.AllK
import Wide.FinOn
import HandS.ForMost
import HandS.ForExc
import HandS.MakeKw
import HandS.FStr
import HandS.Conv
import HandS.ClsMeth
import KE.KCallOwn
import HandS.IsInst
import PyProof.InstEq
import HandS.Lambda
import HandS.ExcInit
import HandS.ExcIs
import HandS.ExcField
import KE.KExcIs
import KE.KExcSuper
import KE.KExcMake
import HandS.EndTab
import HandS.EndOwn
import HandS.NestedK
import PyProof.P3In
import PyProof.FactsAll.dict_1
import KE.KOpsOwn
import HandS.SlotsOwn
import HandS.Defaults
import PyProof.TwoTypes
import PyProof.Rows.FactsB_and
import PyProof.Rows.FactsB_or
import PyProof.Rows.FactsB_xor
import HandS.Property
import KE.RegKSuper
import HandS.GenList
import HandS.SetFor
import HandS.Strs
import HandS.Zip
import HandS.SetBool
import PyProof.Draws
import HandS.GenYield
import HandS.Text
import HandS.TupAny
import HandS.Style
import HandS.TryOnly
import PySem.Challenge.RW_keptbits_k12_whole_effects_put_together
set_option Elab.async false
set_option linter.all false
set_option maxRecDepth 100000
set_option maxHeartbeats 4000000
/-! KG: defs that are promised something where nothing is being shown (no repr under way), so that repr of data is an exact text. -/
namespace KG
open PySem PySem.Spec PyProof.Rows L2

/-- the promise of a def, for callers around which nothing is being shown -/
structure Gd (P : Program) (w : World) (K : PySem.W.Frag) (mg : Str → Option Value) (base : Heap) (CX : CXT) (k : Nat) (f : Addr) (fd : FuncData) (ps : List Str) (sp : Sp) : Prop where
  len : ∀ vs H Q E, sp vs H Q E → vs.length = ps.length
  go : ∀ (A : Around) (outer : List Env) (s : Shared) (H : Hp) (args : Args) (us : List Value) (vs : List V) (Q : VK) (E : XK),
    Room k A → A.guards = some [] → Env0 P w K mg base A outer s H → BindsTo s fd args (ps.zip us) → Vals vs us → sp vs H Q E →
    codeAny (model P w) A (.call (.ref f) args) (CR CX outer P w H s Q E) s

section
variable {P : Program} {w : World} {K : PySem.W.Frag} {mg : Str → Option Value} {base : Heap} {CX : CXT} {k j : Nat} {f : Addr} {fd : FuncData} {ps : List Str} {sp sp' : Sp}
theorem Gd.mono (F : Gd P w K mg base CX j f fd ps sp) (h : j ≤ k) : Gd P w K mg base CX k f fd ps sp :=
  ⟨F.len, fun A o s H a us vs Q E rm => F.go A o s H a us vs Q E (rm.mono h)⟩
theorem Gd.imp (F : Gd P w K mg base CX k f fd ps sp) (h : ∀ vs H Q E, sp' vs H Q E → sp vs H Q E) : Gd P w K mg base CX k f fd ps sp' :=
  ⟨fun vs H Q E q => F.len vs H Q E (h _ _ _ _ q), fun A o s H a us vs Q E rm gd e0 bt rv q => F.go A o s H a us vs Q E rm gd e0 bt rv (h _ _ _ _ q)⟩
theorem Gd.of_ok (F : FnOk P w K mg base CX k f fd ps sp) : Gd P w K mg base CX k f fd ps sp :=
  ⟨F.len, fun A o s H a us vs Q E rm _ e0 bt rv q => F.run A o s H a us vs Q E rm e0 bt rv q⟩

/-- a def by its body -/
theorem gd_of {name qual : Str} {params : Arguments} {body : List Stmt} {scope : Scope} {dV kV doc pm cdv ct oc : Value} {an od : Option Addr}
    {osl : Array (Option Value)} {N : List Str}
    (found : K.lookup f = some ⟨oc, od, .func (PySem.W.fnOf name qual params body scope dV kV doc pm an cdv ct), osl⟩)
    (code : PySem.W.codeIn K cdv qual = true) (sc : FnScope N ps scope) (len : ∀ vs H Q E, sp vs H Q E → vs.length = ps.length)
    (inner : ∀ (A : Around) (outer : List Env) (s : Shared) (H : Hp) (vs : List V) (Q : VK) (E : XK),
      Room k (A.deeper (envOfC qual scope s.heap.objs.size f cdv)) → (A.deeper (envOfC qual scope s.heap.objs.size f cdv)).guards = some [] → sp vs H Q E →
      ∃ t, PSs (cxOf CX P w K mg base N qual scope f cdv A outer s H E) body t ∧ t { nx := fun _ H' => Q .non H', rt := Q } (start N vs) H) :
    Gd P w K mg base CX (k + 1) f (PySem.W.fnOf name qual params body scope dV kV doc pm an cdv ct) ps sp := by
  refine ⟨len, fun A outer s H args us vs Q E rm gd e0 bt rv q0 => ?_⟩
  have llen := len _ _ _ _ q0
  have kin : K.In s.heap := e0.mod.kin.keeps fun b o e => (e0.bs b o e).1
  have nolim : s.heap.NoLimit := e0.mod.nolimit.keeps fun b o e => (e0.bs b o e).1
  have kinds : ∀ y ∈ ps.zip us, scope.names.lookup y.1 = some .local ∨
      (scope.names.lookup y.1 = some .cell ∧ ((cellsFrom (s.heap.objs.size + 1) scope.names []).lookup y.1).isSome = true) := by
    intro ⟨n, v⟩ hy
    rcases sc.par n (List.of_mem_zip hy).1 with z | z
    · exact .inl z
    · exact .inr ⟨z, PySem.W.cellsFrom_some _ _ _ (.inl z)⟩
  refine codeAny_call_function rm.depth (kin _ _ found) rfl sc.co sc.gen rfl (PySem.W.codeRec_of kin code) (bt _ _ _ _ ?_)
  refine wpAny_newFunctionEnv_cells sc.kind kinds fun env he s1 x => ?_
  subst he
  refine ⟨nolim.keeps x.toInCall.keep, codeAny_func ?_⟩
  obtain ⟨t, ht, hq⟩ := inner A outer s H vs Q E (rm.deeper _) gd q0
  have I := inv_start (CX := CX) (E := E) sc rm.hd e0 llen rv x
  refine wpAny_mono (ht.run [] s1 (start N vs) H _ I hq) (fun fl s' hs => ?_) fun e s' hs => hs
  have done : ∀ {σ' : L2.St} {H' : Hp} {v : V} {u : Value}, Inv (cxOf CX P w K mg base N qual scope f cdv A outer s H E) [] σ' H' s' → RelV v u → Q v H' → CE outer P w H s Q u s' :=
    fun {σ' H' v u} J r q => ⟨v, H', J.os, J.bare, J.base, J.hok, r, q⟩
  cases fl with
  | ret u =>
    obtain ⟨v, σ', H', J, r, q⟩ := hs
    exact done J r q
  | next =>
    obtain ⟨σ', H', J, q⟩ := hs
    exact done (v := V.non) (u := Value.none) J rfl q
  | brk => exact hs.elim fun _ h => h.elim fun _ h => False.elim h.2
  | cont => exact hs.elim fun _ h => h.elim fun _ h => False.elim h.2

/-- a def of the text that raises nothing, by its body -/
theorem gd0 {x qual : Str} {st : Stmt} {N : List Str} (F : Fun K x qual st f fd) (sc : FnScope N ps (defScope st)) (len : ∀ vs H Q E, sp vs H Q E → vs.length = ps.length)
    (inner : ∀ (cdv : Value) (A : Around) (outer : List Env) (s : Shared) (H : Hp) (vs : List V) (Q : VK) (E : XK),
      Room k (A.deeper (envOfC qual (defScope st) s.heap.objs.size f cdv)) → (A.deeper (envOfC qual (defScope st) s.heap.objs.size f cdv)).guards = some [] → sp vs H Q E →
      ∃ t, PSs (cxOf CX0 P w K mg base N qual (defScope st) f cdv A outer s H E).nox (defBody st) t ∧ t { nx := fun _ H' => Q .non H', rt := Q } (start N vs) H) :
    Gd P w K mg base CX0 (k + 1) f fd ps sp := by
  obtain ⟨oc, od, kV, doc, pm, an, cdv, ct, osl, rfl, found, code⟩ := F.ex
  exact gd_of found code sc len fun A outer s H vs Q E rm gd q => (inner cdv A outer s H vs Q E rm gd q).elim fun t h => ⟨t, h.1.nox, h.2⟩
/-- a def of the text that may raise, by its body -/
theorem gdX {x qual : Str} {st : Stmt} {N : List Str} (F : Fun K x qual st f fd) (sc : FnScope N ps (defScope st)) (len : ∀ vs H Q E, sp vs H Q E → vs.length = ps.length)
    (inner : ∀ (cdv : Value) (A : Around) (outer : List Env) (s : Shared) (H : Hp) (vs : List V) (Q : VK) (E : XK),
      Room k (A.deeper (envOfC qual (defScope st) s.heap.objs.size f cdv)) → (A.deeper (envOfC qual (defScope st) s.heap.objs.size f cdv)).guards = some [] → sp vs H Q E →
      ∃ t, PSs (cxOf (L2.CX P w) P w K mg base N qual (defScope st) f cdv A outer s H E) (defBody st) t ∧ t { nx := fun _ H' => Q .non H', rt := Q } (start N vs) H) :
    Gd P w K mg base (L2.CX P w) (k + 1) f fd ps sp := by
  obtain ⟨oc, od, kV, doc, pm, an, cdv, ct, osl, rfl, found, code⟩ := F.ex
  exact gd_of found code sc len fun A outer s H vs Q E rm gd q => inner cdv A outer s H vs Q E rm gd q
end

/-! ### calls -/
section
variable {X : Cx} {CX : CXT} {k : Nat} {f C : Addr} {fd : FuncData} {ps ks : List Str} {sp : Sp} {dvs : List V} {ds : List Value} {E : XK} {x m : Str} {p pos apos : Pos} {e o : Expr} {es : List Expr} {kws : List Keyword} {ta te : TE} {t tk : TA}
/-- the callee runs, around it A with the same frames and nothing shown -/
theorem run_at {pins : List (Addr × Obj)} {σ : L2.St} {H : Hp} {s : Shared} {Q : VK} {us ws : List Value} {kw : List (Str × Value)} {vs : List V} {A : Around} {W : Value → Shared → Prop}
    (F : Gd X.prog X.w X.K X.mg X.base CX k f fd ps sp) (rm : Room k A) (gd : A.guards = some []) (e0 : Env0 X.prog X.w X.K X.mg X.base A X.stack s H)
    (pass : ∀ e s', CX X.stack H s E e s' → W e s')
    (I : Inv X pins σ H s) (bt : BindsTo s fd ⟨us, kw⟩ (ps.zip ws)) (r : Vals vs ws) (q : sp vs H Q E) : wpAny (model X.prog X.w) A (call (.ref f) us kw) (EP X pins σ Q) W s := by
  refine wpAny_call (codeAny_mono (F.go A X.stack s H ⟨us, kw⟩ ws vs Q E rm gd e0 bt r q) fun out s' hq => ?_)
  match out, hq with
  | .error e, hq => exact pass e s' hq
  | .ok (.ret u), hq => exact I.after hq
theorem run_g {pins : List (Addr × Obj)} {σ : L2.St} {H : Hp} {s : Shared} {Q : VK} {us ws : List Value} {kw : List (Str × Value)} {vs : List V}
    (F : Gd X.prog X.w X.K X.mg X.base CX k f fd ps sp) (rm : Room k X.A) (gd : X.A.guards = some []) (hx : Passes CX X E)
    (I : Inv X pins σ H s) (bt : BindsTo s fd ⟨us, kw⟩ (ps.zip ws)) (r : Vals vs ws) (q : sp vs H Q E) : wpAny (model X.prog X.w) X.A (call (.ref f) us kw) (EP X pins σ Q) X.xe s :=
  run_at F rm gd I.env0 (fun e s' hq => hx pins σ H s e s' I hq) I bt r q
theorem bind_pos {s : Shared} {us : List Value} {vs : List V} {H : Hp} {Q : VK} (F : Gd X.prog X.w X.K X.mg X.base CX k f fd ps sp) (hb : Binds X.K fd ps ds) (hd : Vals dvs ds) (KX : X.K.In s.heap) (r : Vals vs us) (q : sp (vs ++ dvs) H Q E) :
    BindsTo s fd ⟨us, []⟩ (ps.zip (us ++ ds)) := hb s us KX (by rw [← (r.append hd).length]; exact F.len _ _ _ _ q)

/-- f(e, ..) -/
theorem pe_gcall (F : Gd X.prog X.w X.K X.mg X.base CX k f fd ps sp) (rm : Room k X.A) (gd : X.A.guards = some []) (gl : Gl X x) (at_ : X.mg x = some (.ref f)) (kp : PySem.W.keepIn X.K (.ref f) = true) (hb : Binds X.K fd ps ds) (hd : Vals dvs ds) (hx : Passes CX X E)
    (ha : PA X (e :: es) t) (hdb : (x == ("__debug__" : Str)) = false := by decide) (he : starEach (e :: es) X.env = (false, eval e X.env) :: starEach es X.env := by rfl) (hpl : (backTo pos (starEach es X.env)).any (·.1) = false := by rfl) :
    PE X (.Call (.Name x p) (e :: es) [] pos) (tCall sp dvs E t) :=
  ⟨fun pins s σ H Q I h => wpAny_Call_Name_kw (ld_glob I gl at_ (PySem.W.callWith_K (h₀ := X.base) I.ok.mod.kin kp
    (thn (ha.run pos pins s σ H _ I h) fun us s1 ⟨vs, H1, J, r, q⟩ => ⟨J.kIn, run_g F rm gd hx J (bind_pos F hb hd J.kIn r q) (r.append hd) q⟩) he hpl) hdb)⟩
/-- f() -/
theorem pe_gcall0 (F : Gd X.prog X.w X.K X.mg X.base CX k f fd ps sp) (rm : Room k X.A) (gd : X.A.guards = some []) (gl : Gl X x) (at_ : X.mg x = some (.ref f)) (kp : PySem.W.keepIn X.K (.ref f) = true) (hb : Binds X.K fd ps ds) (hd : Vals dvs ds) (hx : Passes CX X E)
    (hdb : (x == ("__debug__" : Str)) = false := by decide) : PE X (.Call (.Name x p) [] [] pos) (tCall sp dvs E tNil) :=
  ⟨fun pins s σ H Q I h => wpAny_Call_Name_kw (ld_glob I gl at_ (PySem.W.callWith_K0 I.kIn kp (run_g (us := []) (vs := dvs) F rm gd hx I (bind_pos (vs := []) F hb hd I.kIn .nil h) (Vals.append .nil hd) h)) hdb)⟩
/-- o.m(e, ..) -/
theorem pe_gmeth {pl : Sem Bool} (he : PE X o ta) (c : Cls X.K C) (hm : Meth X.K C m f) (F : Gd X.prog X.w X.K X.mg X.base CX k f fd ps sp) (rm : Room k X.A) (gd : X.A.guards = some []) (hb : Binds X.K fd ps ds) (hd : Vals dvs ds) (hx : Passes CX X E) (ha : PA X (e :: es) t)
    (hst : starEach (e :: es) X.env = (false, eval e X.env) :: starEach es X.env := by rfl) (hpl : (backTo pos (starEach es X.env)).any (·.1) = false := by rfl)
    (ht : eval (.Call (.Attribute o m apos) (e :: es) [] pos) X.env = (do
      let w ← eval o X.env
      standAt apos.atName
      let (g, a) ← holding [w] (getMethod w m pl)
      callWith pos g a (backTo pos (starEach (e :: es) X.env)) (backToKw pos (keywordEach [] X.env))) := by rfl) :
    PE X (.Call (.Attribute o m apos) (e :: es) [] pos) (tMeth C m sp dvs E ta t) := by
  refine ⟨fun pins s σ H Q I h => PySem.W.methodCall_KW (pl := pl) (thn (he.run pins s σ H _ I h) fun u s1 ⟨y, H1, I1, ry, a, dx, fs, ey, ea, l, q⟩ => ?_) ht⟩
  subst ey
  obtain rfl : u = Value.ref a := ry
  refine getmeth_ok I1 ea c hm l (PySem.W.callWith_K (first := [.ref a]) (h₀ := X.base) I.ok.mod.kin hm.kp (thn (ha.run pos pins s1 σ H1 _ I1 q) fun us s2 ⟨vs, H2, J, r, q2⟩ => ⟨J.kIn, ?_⟩) hst hpl)
  have r1 : Vals (V.ref a :: vs) (Value.ref a :: us) := .cons rfl r
  exact run_g F rm gd hx J (bind_pos F hb hd J.kIn r1 q2) (r1.append hd) q2
/-- o.m() -/
theorem pe_gmeth0 {pl : Sem Bool} (he : PE X o ta) (c : Cls X.K C) (hm : Meth X.K C m f) (F : Gd X.prog X.w X.K X.mg X.base CX k f fd ps sp) (rm : Room k X.A) (gd : X.A.guards = some []) (hb : Binds X.K fd ps ds) (hd : Vals dvs ds) (hx : Passes CX X E)
    (ht : eval (.Call (.Attribute o m apos) [] [] pos) X.env = (do
      let w ← eval o X.env
      standAt apos.atName
      let (g, a) ← holding [w] (getMethod w m pl)
      callWith pos g a (backTo pos (starEach [] X.env)) (backToKw pos (keywordEach [] X.env))) := by rfl) :
    PE X (.Call (.Attribute o m apos) [] [] pos) (tMeth C m sp dvs E ta tNil) := by
  refine ⟨fun pins s σ H Q I h => PySem.W.methodCall_KW (pl := pl) (thn (he.run pins s σ H _ I h) fun u s1 ⟨y, H1, J, ry, a, dx, fs, ey, ea, l, q⟩ => ?_) ht⟩
  subst ey
  obtain rfl : u = Value.ref a := ry
  have r1 : Vals [V.ref a] [Value.ref a] := .cons rfl .nil
  exact getmeth_ok J ea c hm l (PySem.W.callWith_K0 (first := [.ref a]) J.kIn hm.kp (run_g (us := [.ref a]) F rm gd hx J (bind_pos (vs := [.ref a]) F hb hd J.kIn r1 q) (r1.append hd) q))

/-- some of a list, by places -/
def sel {α : Type} (is : List Nat) (l : List α) : List α := is.filterMap fun i => l[i]?
theorem sel_vals : ∀ (is : List Nat) {vs : List V} {us : List Value}, Vals vs us → Vals (sel is vs) (sel is us)
  | [], _, _, _ => .nil
  | i :: is, vs, us, r => by
    have ih := sel_vals is r
    unfold sel at ih ⊢
    rw [List.filterMap_cons, List.filterMap_cons]
    cases h : vs[i]? with
    | none => rw [r.none_of h]; exact ih
    | some v =>
      obtain ⟨u, e, rv⟩ := r.get h
      rw [e]
      exact .cons rv ih
/-- keywords behind n values: the keywords' values in the order of is -/
theorem kbn_of {K : PySem.W.Frag} {qual : Str} {st : Stmt} (F : Fun K x qual st f fd) (n : Nat) (ks : List Str) (is : List Nat)
    (h : ∀ (kV doc pm : Value) (an : Option Addr) (cdv ct : Value) (us ws : List Value), us.length = n → ws.length = ks.length →
      bindArgs (PySem.W.fnOf x qual (defArgs st) (defBody st) (defScope st) .none kV doc pm an cdv ct) ⟨us, ks.zip ws⟩ = pure (ps.zip (us ++ sel is ws))) :
    KBn K fd ps n ks (fun us ws => us ++ sel is ws) (fun vs zs => vs ++ sel is zs) := by
  obtain ⟨oc, od, kV, doc, pm, an, cdv, ct, osl, rfl, _, _⟩ := F.ex
  exact ⟨fun s us ws _ l1 l2 => .of_eq (h kV doc pm an cdv ct us ws l1 l2), fun r rz => r.append (sel_vals is rz)⟩
variable {n : Nat} {g : List Value → List Value → List Value} {gV : List V → List V → List V}
/-- o.m(k = v, ..) -/
def tMethK (C : Addr) (m : Str) (j : Nat) (sp : Sp) (gV : List V → List V → List V) (E : XK) (ta : TE) (tk : TA) : TE := fun σ H Q => ta σ H fun x H1 => ∃ a dx fs, x = .ref a ∧ H1 a = some (.ins C dx fs) ∧ fs.lookup m = none ∧
  tk σ H1 fun zs H2 => zs.length = j ∧ sp (gV [x] zs) H2 Q E
theorem pe_gmethK {pl : Sem Bool} (he : PE X o ta) (c : Cls X.K C) (hm : Meth X.K C m f) (F : Gd X.prog X.w X.K X.mg X.base CX k f fd ps sp) (rm : Room k X.A) (gd : X.A.guards = some []) (hb : KBn X.K fd ps 1 ks g gV) (hx : Passes CX X E) (hkw : PK X kws tk)
    (hall : (backToKw pos (keywordEach kws X.env)).all (·.1.isSome) = true := by rfl) (hks : (backToKw pos (keywordEach kws X.env)).filterMap (·.1) = ks := by rfl)
    (hpl : ((backTo pos (starEach [] X.env)).any (·.1) || (backToKw pos (keywordEach kws X.env)).any (·.1.isNone)) = false := by rfl)
    (ht : eval (.Call (.Attribute o m apos) [] kws pos) X.env = (do
      let w ← eval o X.env
      standAt apos.atName
      let (g, a) ← holding [w] (getMethod w m pl)
      callWith pos g a (backTo pos (starEach [] X.env)) (backToKw pos (keywordEach kws X.env))) := by rfl) :
    PE X (.Call (.Attribute o m apos) [] kws pos) (tMethK C m ks.length sp gV E ta tk) := by
  refine ⟨fun pins s σ H Q I h => PySem.W.methodCall_KW (pl := pl) (thn (he.run pins s σ H _ I h) fun u s1 ⟨y, H1, I1, ry, a, dx, fs, ey, ea, l, q⟩ => ?_) ht⟩
  subst ey
  obtain rfl : u = Value.ref a := ry
  refine getmeth_ok I1 ea c hm l (PySem.W.callWith_KW0 (first := [.ref a]) (h₀ := X.base) I.ok.mod.kin hm.kp hall (thn (hkw.run pos pins s1 σ H1 _ I1 q) fun ws s2 ⟨zs, H2, J, rz, lz, q2⟩ => ⟨J.kIn, ?_⟩) hpl)
  rw [hks]
  have r1 : Vals [V.ref a] [Value.ref a] := .cons rfl .nil
  exact run_g (us := [.ref a]) F rm gd hx J (hb.to s2 [.ref a] ws J.kIn rfl (rz.length.symm.trans lz)) (hb.rel r1 rz) q2

/-! ### new instances -/
theorem und_make {A : Around} {us : List Value} {kw : List (Str × Value)} : (A.under (.builtin "type.__call__" ⟨.ref C :: us, kw⟩)).guards = A.guards := by
  first | rfl | simp [Around.under, Code.guards, Code.isGuard, guardIds, pushGuards]
theorem run_gmake {pins : List (Addr × Obj)} {σ : L2.St} {H : Hp} {s : Shared} {Q : VK} {us : List Value} {kw : List (Str × Value)} (gW : Value → List Value) (gZ : V → List V) (M : Mk X.K C f) (F : Gd X.prog X.w X.K X.mg X.base CX k f fd ps sp) (rm : Room (k + 1) X.A) (gd : X.A.guards = some [])
    (hb : ∀ (s : Shared) (y : Addr), X.K.In s.heap → BindsTo s fd ⟨.ref y :: us, kw⟩ (ps.zip (gW (.ref y)))) (hv : ∀ y : Addr, Vals (gZ (.ref y)) (gW (.ref y)))
    (hx : Passes CX X E) (I : Inv X pins σ H s)
    (h : ∀ y dy, H y = none → H dy = none → dy ≠ y → sp (gZ (.ref y)) (upd (upd H dy (.own y)) y (.ins C dy [])) (fun v H2 => v = .non ∧ Q (.ref y) H2) E) :
    wpAny (model X.prog X.w) X.A (call (.ref C) us kw) (EP X pins σ Q) X.xe s := by
  have hq := h (s.heap.objs.size + 1) s.heap.objs.size (I.hok.fresh (Nat.le_succ _)) (I.hok.fresh (Nat.le_refl _)) (Nat.ne_of_lt (Nat.lt_succ_self _))
  have J := Inv.made (C := C) I
  refine wpAny_call (make_map (f := f) I.kIn M.makes M.init (beq_iff_eq.mp M.fn) (codeAny_mono (F.go _ X.stack _ _ ⟨Value.ref (s.heap.objs.size + 1) :: us, kw⟩ _ _ _ E (rm.make C us kw)
    (und_make.trans gd) (J.env0.make C us kw) (hb _ (s.heap.objs.size + 1) J.kIn) (hv _) hq) fun out s' hq' => ?_))
  match out, hq' with
  | .error e, hq' => exact hx pins σ _ _ e s' J hq'
  | .ok (.ret u), hq' =>
    obtain ⟨v, H', I3, rv, ev, q3⟩ := J.after hq'
    subst ev
    exact ⟨rv, ⟨V.ref (s.heap.objs.size + 1), H', I3, rfl, q3⟩⟩
/-- C(e, ..) -/
theorem pe_gmake (M : Mk X.K C f) (F : Gd X.prog X.w X.K X.mg X.base CX k f fd ps sp) (rm : Room (k + 1) X.A) (gd : X.A.guards = some []) (gl : Gl X x) (at_ : X.mg x = some (.ref C)) (hb : Binds X.K fd ps ds) (hd : Vals dvs ds) (hx : Passes CX X E)
    (ha : PA X (e :: es) t) (hdb : (x == ("__debug__" : Str)) = false := by decide) (he : starEach (e :: es) X.env = (false, eval e X.env) :: starEach es X.env := by rfl) (hpl : (backTo pos (starEach es X.env)).any (·.1) = false := by rfl) :
    PE X (.Call (.Name x p) (e :: es) [] pos) (tMake C sp dvs E t) := by
  refine ⟨fun pins s σ H Q I h => wpAny_Call_Name_kw (ld_glob I gl at_ (PySem.W.callWith_K (h₀ := X.base) I.ok.mod.kin M.kp (thn (ha.run pos pins s σ H _ I h) fun us s1 ⟨vs, H1, J, r, q⟩ => ⟨J.kIn, ?_⟩) he hpl) hdb)⟩
  have rr : ∀ y : Addr, Vals (V.ref y :: vs ++ dvs) (Value.ref y :: us ++ ds) := fun y => .cons rfl (r.append hd)
  have hl : ∀ y : Addr, (Value.ref y :: us ++ ds).length = ps.length := fun y => by
    have e := (rr y).length
    have q1 := q (s1.heap.objs.size + 1) s1.heap.objs.size (J.hok.fresh (Nat.le_succ _)) (J.hok.fresh (Nat.le_refl _)) (Nat.ne_of_lt (Nat.lt_succ_self _))
    have e1 := F.len _ _ _ _ q1
    rw [← e, ← e1]
    simp
  exact run_gmake (fun y => y :: us ++ ds) (fun y => y :: vs ++ dvs) M F rm gd (fun s y KX => hb s (.ref y :: us) KX (hl y)) rr hx J q
/-- C(k = v, ..) -/
def tMakeKG (C : Addr) (j : Nat) (sp : Sp) (gV : List V → List V → List V) (E : XK) (tk : TA) : TE := fun σ H Q => tk σ H fun zs H2 => zs.length = j ∧
  ∀ x dx, H2 x = none → H2 dx = none → dx ≠ x → sp (gV [.ref x] zs) (upd (upd H2 dx (.own x)) x (.ins C dx [])) (fun v H3 => v = .non ∧ Q (.ref x) H3) E
theorem pe_gmakeK (M : Mk X.K C f) (F : Gd X.prog X.w X.K X.mg X.base CX k f fd ps sp) (rm : Room (k + 1) X.A) (gd : X.A.guards = some []) (gl : Gl X x) (at_ : X.mg x = some (.ref C)) (hb : KBn X.K fd ps 1 ks g gV) (hx : Passes CX X E)
    (hkw : PK X kws tk) (hall : (backToKw pos (keywordEach kws X.env)).all (·.1.isSome) = true := by rfl) (hks : (backToKw pos (keywordEach kws X.env)).filterMap (·.1) = ks := by rfl)
    (hdb : (x == ("__debug__" : Str)) = false := by decide)
    (hpl : ((backTo pos (starEach [] X.env)).any (·.1) || (backToKw pos (keywordEach kws X.env)).any (·.1.isNone)) = false := by rfl) :
    PE X (.Call (.Name x p) [] kws pos) (tMakeKG C ks.length sp gV E tk) := by
  refine ⟨fun pins s σ H Q I h => wpAny_Call_Name_kw (ld_glob I gl at_ (PySem.W.callWith_KW0 (first := []) (h₀ := X.base) I.ok.mod.kin M.kp hall (thn (hkw.run pos pins s σ H _ I h) fun ws s2 ⟨zs, H2, J, rz, lz, q2⟩ => ⟨J.kIn, ?_⟩) hpl) hdb)⟩
  rw [hks]
  exact run_gmake (us := []) (fun y => g [y] ws) (fun y => gV [y] zs) M F rm gd (fun s y KX => hb.to s [.ref y] ws KX rfl (rz.length.symm.trans lz)) (fun y => hb.rel (.cons rfl .nil) rz) hx J q2
end
end KG

set_option Elab.async false
set_option linter.all false
set_option maxRecDepth 100000
set_option maxHeartbeats 4000000
/-! KR: the end of a law over such promises; repr of data, str of an own object, == and != by an own __eq__. -/
namespace KG
open PySem PySem.Spec PyProof.Rows L2

/-! ### the end: the law's def is called where nothing is shown -/
theorem law_gd {P : Program} {w : World} {K : PySem.W.Frag} {mg mb : Str → Option Value} {CX : CXT} {k : Nat} {fa a : Addr} {fd : FuncData} {x : Str} {sp : Sp} {s1 : Shared} {vs : List Value} {ns : List Int}
    (kin : K.In s1.heap) (nsm : s1.heap.Ns mainGlobals mg) (nsb : s1.heap.Ns builtinsNs mb) (mbb : ∀ x : Str, x ≠ "__name__" → mb x = bootBuiltins x) (lim : s1.heap.NoLimit) (nog : s1.gens = #[])
    (atA : s1.heap.get? a = some { cls := .type "list", data := .seq vs.toArray }) (isn : IntsAre vs ns) (small : ns.length ≤ sizeLine) (rm : Room k callerA)
    (F : ∀ base : Heap, K.In base → base.Ns mainGlobals mg → Gd P w K mg base CX k fa fd [x] sp) (bt : ∀ (s : Shared) (u : Value), BindsTo s fd ⟨[u], []⟩ [(x, u)])
    (start_ : ∀ H : Hp, Only H → SqL K H a (ns.map V.int) → sp [.ref a] H (fun v _ => v = .bl true) fun _ _ _ => False)
    (quiet : ∀ H e s', CX [] H s1 (fun _ _ _ => False) e s' → False) :
    codeAny (model P w) callerA (.call (.ref fa) ⟨[.ref a], []⟩) (fun r s' => r = .ok (.ret (.bool true)) ∧ OldK s1.heap s'.heap ∧ s'.os = s1.os ∧ AllBare s'.gens) s1 := by
  have rv := vals_ints isn
  have vlen := isn.length
  have from_ : ∀ H : Hp, Only H → SqL K H a (ns.map V.int) → HOk P w H s1.heap → (∀ b, H b ≠ none → b = a) → (H a ≠ none → K.lookup a = none) →
      codeAny (model P w) callerA (.call (.ref fa) ⟨[.ref a], []⟩) (fun r s' => r = .ok (.ret (.bool true)) ∧ OldK s1.heap s'.heap ∧ s'.os = s1.os ∧ AllBare s'.gens) s1 := by
    intro H only sq hok onlyA notK
    have free_of : ∀ {b : Addr} {o : Obj}, (H b ≠ none → b = a → False) → H b = none := fun {b o} h => by
      by_cases z : H b = none
      · exact z
      · exact (h z (onlyA b z)).elim
    have dict_free : ∀ {b : Addr} {o : Obj} {es : Array DictEntry} {ep : Nat}, s1.heap.get? b = some o → o.data = .dict es ep → H b = none := fun {b o es ep} e d =>
      free_of (o := o) fun _ eb => by
        rw [eb, atA] at e
        cases e
        exact nomatch d
    have ns_hid : ∀ {b : Addr} {m : Str → Option Value}, s1.heap.Ns b m → (hidT s1.heap H).Ns b m :=
      fun {b m} ⟨o, es, ep, e, d, r⟩ => ⟨o, es, ep, hidT_get e (dict_free e d), d, r⟩
    have kin_hid : K.In (hidT s1.heap H) := fun b o e => hidT_get (kin b o e) (free_of (o := o) fun z eb => by
      rw [eb] at e z
      rw [notK z] at e
      cases e)
    have mod : Mod K mg (hidT s1.heap H) := ⟨kin_hid, ns_hid nsm, ⟨mb, ns_hid nsb, mbb⟩, lim.elim fun mc h => ⟨mc, ns_hid h.1, h.2⟩⟩
    have e0 : Env0 P w K mg (hidT s1.heap H) callerA [] s1 H := ⟨rfl, mod, fun b o e => of_hidT e, Nat.le_of_eq (hidT_size _ _), trivial, fun b hb => absurd (show b ∈ ([] : List Addr) from hb) List.not_mem_nil, hok, .of_eq nog⟩
    refine codeAny_mono ((F _ kin_hid (ns_hid nsm)).go callerA [] s1 H ⟨[.ref a], []⟩ [.ref a] [.ref a] _ _ rm rfl e0 (bt s1 (.ref a)) (.cons rfl .nil) (start_ H only sq)) fun r s' h => ?_
    match r, h with
    | .error e, h => exact (quiet H e s' h).elim
    | .ok (.ret u), h =>
      obtain ⟨v, H', os, bare, un, hok', r', q⟩ := h
      have q' : v = .bl true := q
      subst q'
      obtain rfl : u = Value.bool true := r'
      refine ⟨rfl, OldK.of_keep fun b o e => ?_, os, bare⟩
      cases z : H b with
      | none => exact un.keep b o e z (by intro y; cases y) (by simp)
      | some t =>
        rcases only b with y | ⟨ob, xs, y⟩
        · rw [z] at y
          cases y
        · have y2 := un.frzs b ob _ y
          obtain ⟨g1, _⟩ := hok b _ y
          obtain ⟨g2, _⟩ := hok' b _ y2
          rw [e] at g1
          cases g1
          exact g2
  cases hk : K.lookup a with
  | some o =>
    have e := kin a o hk
    rw [atA] at e
    cases e
    exact from_ (fun _ => none) (fun _ => .inl rfl) (.inr ⟨_, vs.toArray, _, hk, rfl, rfl, rfl, by rw [List.size_toArray, vlen]; exact small, by simpa using rv⟩) (fun b u z => by cases z) (fun b z => absurd rfl z) fun z => absurd rfl z
  | none =>
    have at_a : ∀ {b : Addr} {u : HO}, (if b = a then some (HO.frz { cls := .type "list", data := .seq vs.toArray } (.lst (ns.map V.int))) else none) = some u → b = a := fun {b u} z => by
      by_cases hb : b = a
      · exact hb
      · rw [if_neg hb] at z
        cases z
    refine from_ (fun b => if b = a then some (.frz { cls := .type "list", data := .seq vs.toArray } (.lst (ns.map V.int))) else none) (fun b => ?_) (.inl (.inr ⟨{ cls := .type "list", data := .seq vs.toArray }, if_pos rfl⟩)) (fun b u z => ?_) (fun b z => ?_) fun _ => hk
    · by_cases hb : b = a
      · exact .inr ⟨_, _, if_pos hb⟩
      · exact .inl (if_neg hb)
    · obtain rfl := at_a z
      have z' := (if_pos rfl).symm.trans z
      cases z'
      exact ⟨atA, by rw [List.length_map]; exact small, vs, _, rv, atA⟩
    · by_cases hb : b = a
      · exact hb
      · exact absurd (if_neg hb) z

/-- the law's walk, from its promise where nothing is shown -/
theorem walk_gd {l : PySem.W.OpenLaw} {n k : Nat} {q : Program} {loose : List Str} {XP : (Str → Option Value) → Heap → Prop} {YP : World → Heap → Prop} {d : DefRec} {K : Params → PySem.W.Frag} {CX : World → CXT} {sp : World → Sp} {x : Str}
    (most : l.most = some n) (n2 : n ≤ sizeLine) (nod : d.params.defaults = []) (rm : Room k callerA)
    (hY : ∀ (w : World) (h : Heap), YP w h → (K w.params).In h)
    (F : ∀ (w : World) (mg : Str → Option Value) (fa : Addr) (h : Heap), (K w.params).In h → h.Ns mainGlobals mg → mg d.name = some (.ref fa) →
      ∃ fd : FuncData, (∀ (s : Shared) (u : Value), BindsTo s fd ⟨[u], []⟩ [(x, u)]) ∧
        ∀ base : Heap, (K w.params).In base → base.Ns mainGlobals mg → Gd l.prog w (K w.params) mg base (CX w) k fa fd [x] (sp w))
    (start_ : ∀ (w : World) (H : Hp) (a : Addr) (ns : List Int), ns.length ≤ n → Only H → SqL (K w.params) H a (ns.map V.int) → sp w [.ref a] H (fun v _ => v = .bl true) fun _ _ _ => False)
    (quiet : ∀ (w : World) (H : Hp) (s : Shared) (e : Value) (s' : Shared), CX w [] H s (fun _ _ _ => False) e s' → False) :
    PySem.W.WalkO q loose XP YP l.row.toRowW d [] (fun f vs => PySem.call f vs) := by
  refine Att.attach_call most nod fun w s0 s1 mg mb fa o pm cd doc a vs ns G Y ho hd hcd hmg hobj hints hlen hg => ?_
  have kin := hY w _ Y
  obtain ⟨fd, hb, hF⟩ := F w mg fa _ kin G.T.g hmg
  exact law_gd kin G.T.g G.T.b G.T.builtins G.T.nolimit hg hobj hints (Nat.le_trans hlen n2) rm hF hb (fun H hO hS => start_ w H a ns hlen hO hS) fun H e s' => quiet w H s1 e s'

/-- .. where the promise hangs on the written part alone -/
theorem walk_gdK {l : PySem.W.OpenLaw} {n k : Nat} {q : Program} {loose : List Str} {XP : (Str → Option Value) → Heap → Prop} {YP : World → Heap → Prop} {d : DefRec} {K : Params → PySem.W.Frag} {CX : CXT} {sp : PySem.W.Frag → Sp} {x : Str}
    (most : l.most = some n) (n2 : n ≤ sizeLine) (nod : d.params.defaults = []) (rm : Room k callerA)
    (hY : ∀ (w : World) (h : Heap), YP w h → (K w.params).In h)
    (F : ∀ (w : World) (mg : Str → Option Value) (fa : Addr) (h : Heap), (K w.params).In h → h.Ns mainGlobals mg → mg d.name = some (.ref fa) →
      ∃ fd : FuncData, (∀ (s : Shared) (u : Value), BindsTo s fd ⟨[u], []⟩ [(x, u)]) ∧
        ∀ base : Heap, (K w.params).In base → base.Ns mainGlobals mg → Gd l.prog w (K w.params) mg base CX k fa fd [x] (sp (K w.params)))
    (start_ : ∀ (K : PySem.W.Frag) (H : Hp) (a : Addr) (ns : List Int), ns.length ≤ n → Only H → SqL K H a (ns.map V.int) → sp K [.ref a] H (fun v _ => v = .bl true) fun _ _ _ => False)
    (quiet : ∀ (H : Hp) (s : Shared) (e : Value) (s' : Shared), CX [] H s (fun _ _ _ => False) e s' → False) :
    PySem.W.WalkO q loose XP YP l.row.toRowW d [] (fun f vs => PySem.call f vs) :=
  walk_gd (K := K) (CX := fun _ => CX) (sp := fun w => sp (K w.params)) most n2 nod rm hY F (fun w H a ns h1 h2 h3 => start_ (K w.params) H a ns h1 h2 h3) fun _ H s e s' => quiet H s e s'

/-! ### repr of data -/
section
variable {X : Cx}
/-- repr(x), x data: none, bools, ints, texts, lists, tuples -/
def rRepr (K : PySem.W.Frag) : List V → Hp → VK → Prop := fun xs H Q => ∃ x d, xs = [x] ∧ Dp K H x d ∧ d.showable = true ∧ d.hasDict = false ∧ d.depth ≤ 40 ∧ d.shown.length ≤ sizeLine ∧ Q (.str d.shown) H
theorem call_repr {k : Nat} (rm : Room k X.A) (gd : X.A.guards = some []) : CallR X (.builtin "repr") (rRepr X.K) := by
  intro pins s σ H xs us Q I r h
  obtain ⟨x, d, rfl, hd, sh, nd, dp, sz, q⟩ := h
  obtain ⟨u, rfl, r1⟩ := vals1 r
  obtain ⟨as, rd⟩ := Dp.reads I d x u hd r1
  have room := rm.units
  have fin : ∀ (s' : Shared) (tk : Tok), Inv X pins σ H s' → EP X pins σ Q (.str d.shown tk) s' := fun s' tk J => ⟨.str d.shown, H, J, ⟨tk, rfl⟩, q⟩
  have intsz : ∀ i : Int, d = .int i → i.natAbs.log2 < 1920 := fun i e => by
    subst e
    simpa [PyData.showable] using sh
  cases hd with
  | non =>
    cases r1
    rw [PyData.shown_none] at q
    exact PySem.P.repr_of_none ⟨.str _, H, I.tok _, ⟨_, rfl⟩, q⟩
  | bl b =>
    cases r1
    rw [PyData.shown_bool] at q
    exact PySem.P.repr_of_bool ⟨.str _, H, I.tok _, ⟨_, rfl⟩, by cases b <;> exact q⟩
  | int i =>
    obtain ⟨t, rfl⟩ := r1
    rw [PyData.shown_int] at q
    exact PySem.P.repr_of_int (intsz i rfl) ⟨.str _, H, I.tok _, ⟨_, rfl⟩, q⟩
  | str z =>
    obtain ⟨t, rfl⟩ := r1
    rw [PyData.shown_str] at q sz
    exact PySem.P.repr_of_str ⟨.str _, H, I.tok _, ⟨_, rfl⟩, q⟩ sz
  | lst _ _ =>
    cases r1
    exact repr_of_reads' rd sh (fun z => by rw [nd] at z; cases z) gd (by omega) (fun _ _ z => z) (fun h' u tk keep => fin _ _ (I.kept (t' := tk) keep)) sz
  | tup _ _ =>
    cases r1
    exact repr_of_reads' rd sh (fun z => by rw [nd] at z; cases z) gd (by omega) (fun _ _ z => z) (fun h' u tk keep => fin _ _ (I.kept (t' := tk) keep)) sz
end

/-! ### str(o), o an own object with its own __str__ -/
section
variable {X : Cx} {CX : CXT} {k : Nat} {f C : Addr} {fd : FuncData} {ps : List Str} {sp : Sp} {E : XK}
theorem in1_gd {A : Around} (h : A.guards = some []) : A.in1.guards = some [] := h
def rStrO (C : Addr) (sp : Sp) (E : XK) : List V → Hp → VK → Prop := fun xs H Q => ∃ a dx fs, xs = [.ref a] ∧ H a = some (.ins C dx fs) ∧ sp [.ref a] H (fun v H' => ∃ z, v = .str z ∧ Q (.str z) H') E
theorem call_strO (F : Gd X.prog X.w X.K X.mg X.base CX k f fd ps sp) (rm : Room (k + 2) X.A) (gd : X.A.guards = some []) (hs : PySem.W.findIn X.K (.ref C) "__str__" = some (some (.ref f))) (hf : PySem.W.isFn X.K (.ref f) = true)
    (hb : Binds X.K fd ps []) (hx : Passes CX X E) : CallR X (.type "str") (rStrO C sp E) := by
  intro pins s σ H xs us Q I r h
  obtain ⟨a, dx, fs, rfl, ea, q⟩ := h
  obtain ⟨u, rfl, r1⟩ := vals1 r
  obtain rfl : u = Value.ref a := r1
  obtain ⟨mA, J, _⟩ := ins_get I.hok ea
  obtain ⟨od, J, _⟩ := J.look
  have room := rm.units
  refine PySem.W.kso_call (by show X.A.units + 1 + 1 < cLine; omega) I.kIn J hs hf ?_
  have r2 : Vals [V.ref a] [Value.ref a] := .cons rfl .nil
  have bt := bind_pos (dvs := []) (vs := [V.ref a]) F hb .nil I.kIn r2 q
  refine wpAny_mono (run_at (us := [.ref a]) F rm.in1.in1 (in1_gd (in1_gd gd)) I.env0.in1.in1 (fun e s' hq => hx pins σ H s e s' I hq) I bt r2 q) (fun v s' hv => ?_) fun _ _ z => z
  obtain ⟨z, H', J', rz, y, ey, q'⟩ := hv
  subst ey
  obtain ⟨t, rfl⟩ := rz
  exact ⟨.str y, H', J', ⟨t, rfl⟩, q'⟩

/-! ### == and != by an own __eq__ -/
theorem ne_bound {M : Model} {A : Around} {W : Value → Shared → Prop} {s : Shared} {K : PySem.W.Frag} {x C : Addr} {ox : Obj} {od : Option Obj} {args : List Value} {Q : Option Value → Shared → Prop} (kin : K.In s.heap) (J : PySem.W.InstAt s.heap x ox C od)
    (hs : PySem.W.findIn K (.ref C) "__ne__" = some (some (.builtin "object.__ne__"))) (h : wpAny M A (call (.builtin "object.__ne__") (.ref x :: args)) (fun v => Q (some v)) W s) :
    wpAny M A (callSpecialIfBound? (.ref x) "__ne__" args) Q W s := by
  simp only [callSpecialIfBound?, bindSpecialIfBound?]
  refine wpAny_holding (wpAny_bind (wpAny_bind (wpAny_bind (J.type.here ((PySem.W.looks_findIn kin hs).here ?_)))))
  refine wpAny_bind (wpAny_askSetting (wpAny_ite ?_))
  have last : wpAny M A (call (.builtin "object.__ne__") ([.ref x] ++ args) >>= fun v => pure (some v)) Q W s :=
    wpAny_bind (wpAny_mono h (fun v s' z => wpAny_pure z) fun _ _ z => z)
  split
  · exact wpAny_bind (wpAny_of_eq (F.cmp_object.ne.bind _) (wpAny_pure (by exact last)))
  · exact wpAny_tryCatch (wpAny_bind (wpAny_of_eq (F.cmp_object.ne.bind _) (wpAny_pure (by exact last))))
theorem ne_own {prog : Program} {w : World} {A : Around} {W : Value → Shared → Prop} {s : Shared} {K : PySem.W.Frag} {x C f : Addr} {ox : Obj} {od : Option Obj} {b tb : Value} {Q : Value → Shared → Prop} (hu : A.units + 1 < cLine) (kin : K.In s.heap) (J : PySem.W.InstAt s.heap x ox C od)
    (hb : PySem.W.Looks (model prog w) s.heap (typeOf b) tb) (hn : PySem.W.notFirst K C tb = true) (hm : PySem.W.mroIn K C (.type "object") = some true)
    (hs : PySem.W.findIn K (.ref C) "__ne__" = some (some (.builtin "object.__ne__"))) (he : PySem.W.findIn K (.ref C) "__eq__" = some (some (.ref f))) (hf : PySem.W.isFn K (.ref f) = true)
    (h : wpAny (model prog w) A.in1 (call (.ref f) [.ref x, b]) (fun v s' => ∃ c, v = .bool c ∧ Q (.bool (!c)) s') W s) : wpAny (model prog w) A (richCompare .NotEq (.ref x) b) Q W s := by
  have one : wpAny (model prog w) A (tryCompare (.ref x) "__ne__" b) (fun r s' => ∃ v, r = some v ∧ Q v s') W s := by
    unfold tryCompare
    refine wpAny_bind (ne_bound kin J hs (wpAny_call (codeAny_call_builtin F.cmp_object.ne.plain F.cmpEntry_ne
      (PySem.W.check_slot F.cmpKind_ne F.cmpSplit_ne (J.type.andThen (PySem.W.looks_mroIn kin hm)) (F.cmpArgs_ne _ _) ?_))))
    show wpAny _ _ (Builtin.«object.__ne__» ⟨[.ref x, b], []⟩) _ _ s
    unfold Builtin.«object.__ne__»
    refine wpAny_bind (m := slotArgs "__ne__" 1 _) (wpAny_pure ?_)
    refine wpAny_bind (wpAny_cRoomFor (by show A.units + 1 < cLine; omega) ?_)
    refine wpAny_bind (m := callSpecialIfBound? (.ref x) (Str.ofString "__eq__") [b]) (PySem.W.ifBound_K kin J he hf (wpAny_mono h (fun v s' hv => ?_) fun _ _ z => z))
    obtain ⟨c, rfl, q⟩ := hv
    refine wpAny_bind (wpAny_truthy_bool ?_)
    exact wpAny_pure (wpAny_pure ⟨_, rfl, q⟩)
  unfold richCompare
  simp only [oneThing_ref]
  refine wpAny_holding (wpAny_bind (wpAny_cRoomFor (by omega) ?_))
  refine wpAny_bind (J.type.here (wpAny_bind (hb.here ?_)))
  split
  · rename_i q
    have e : PySem.W.subIn K tb (.ref C) = some false := by
      rcases Bool.or_eq_true_iff.mp hn with e | e
      · rw [beq_iff_eq.mp e] at q
        simp at q
      · exact beq_iff_eq.mp e
    refine wpAny_bind ((PySem.W.looks_subIn kin e).here ?_)
    simp only [Bool.false_eq_true, if_false]
    refine wpAny_bind (m := tryCompare (.ref x) _ b) (wpAny_mono one (fun r s' z => ?_) fun _ _ e => e)
    obtain ⟨v, rfl, hq⟩ := z
    exact wpAny_pure hq
  · refine wpAny_bind (wpAny_pure ?_)
    simp only [Bool.false_eq_true, if_false]
    refine wpAny_bind (m := tryCompare (.ref x) _ b) (wpAny_mono one (fun r s' z => ?_) fun _ _ e => e)
    obtain ⟨v, rfl, hq⟩ := z
    exact wpAny_pure hq

/-- o == y, o != y: the own __eq__ answers (y: the same class, or a thing whose type is no class below it) -/
def rEqO (K : PySem.W.Frag) (C : Addr) (neg : Bool) (sp : Sp) (E : XK) : R2 := fun x y H Q => ∃ a dx fs t, x = .ref a ∧ H a = some (.ins C dx fs) ∧ TyX K H y t ∧ PySem.W.notFirst K C t = true ∧
  sp [.ref a, y] H (fun v H' => ∃ c, v = .bl c ∧ Q (.bl (if neg then !c else c)) H') E
theorem op_eqO (F : Gd X.prog X.w X.K X.mg X.base CX k f fd ps sp) (rm : Room k X.A) (gd : X.A.guards = some []) (hs : PySem.W.findIn X.K (.ref C) "__eq__" = some (some (.ref f))) (hf : PySem.W.isFn X.K (.ref f) = true)
    (hb : Binds X.K fd ps []) (hx : Passes CX X E) : OpR X (compareOp .Eq) (rEqO X.K C false sp E) := by
  intro pins s σ H x y v u Q I rx ry h
  obtain ⟨a, dx, fs, t, rfl, ea, ty, nf, q⟩ := h
  obtain rfl : v = Value.ref a := rx
  obtain ⟨mA, J, _⟩ := ins_get I.hok ea
  obtain ⟨od, J, _⟩ := J.look
  obtain ⟨m, fr⟩ := I.fr
  obtain ⟨_, Z, pz, _⟩ := kit_of I ry ty
  have r2 : Vals [V.ref a, y] [Value.ref a, u] := .cons rfl (.cons ry .nil)
  have bt := bind_pos (dvs := []) (vs := [V.ref a, y]) F hb .nil I.kIn r2 q
  refine PySem.W.cmp_K (op := .Eq) rm.units0 fr I.ok.mod.kin J (Z.ty _ _ I.kIn pz) nf hs hf ?_
  refine wpAny_mono (run_g (us := [.ref a, u]) F rm gd hx I bt r2 q) (fun v s' hv => ?_) fun _ _ z => z
  obtain ⟨z, H', J', rz, c, ez, q'⟩ := hv
  subst ez
  obtain rfl : v = Value.bool c := rz
  exact ⟨.bl c, H', J', rfl, q'⟩
theorem op_neO (F : Gd X.prog X.w X.K X.mg X.base CX k f fd ps sp) (rm : Room (k + 1) X.A) (gd : X.A.guards = some []) (hs : PySem.W.findIn X.K (.ref C) "__eq__" = some (some (.ref f))) (hf : PySem.W.isFn X.K (.ref f) = true)
    (hn : PySem.W.findIn X.K (.ref C) "__ne__" = some (some (.builtin "object.__ne__"))) (hm : PySem.W.mroIn X.K C (.type "object") = some true)
    (hb : Binds X.K fd ps []) (hx : Passes CX X E) : OpR X (compareOp .NotEq) (rEqO X.K C true sp E) := by
  intro pins s σ H x y v u Q I rx ry h
  obtain ⟨a, dx, fs, t, rfl, ea, ty, nf, q⟩ := h
  obtain rfl : v = Value.ref a := rx
  obtain ⟨mA, J, _⟩ := ins_get I.hok ea
  obtain ⟨od, J, _⟩ := J.look
  obtain ⟨_, Z, pz, _⟩ := kit_of I ry ty
  have r2 : Vals [V.ref a, y] [Value.ref a, u] := .cons rfl (.cons ry .nil)
  have bt := bind_pos (dvs := []) (vs := [V.ref a, y]) F hb .nil I.kIn r2 q
  have room := rm.units
  refine ne_own (by omega) I.kIn J (Z.ty _ _ I.kIn pz) nf hm hn hs hf ?_
  refine wpAny_mono (run_at (us := [.ref a, u]) F rm.in1 (in1_gd gd) I.env0.in1 (fun e s' hq => hx pins σ H s e s' I hq) I bt r2 q) (fun v s' hv => ?_) fun _ _ z => z
  obtain ⟨z, H', J', rz, c, ez, q'⟩ := hv
  subst ez
  obtain rfl : v = Value.bool c := rz
  exact ⟨c, rfl, .bl (!c), H', J', rfl, q'⟩
end
end KG

set_option Elab.async false
set_option linter.all false
set_option maxRecDepth 100000
set_option maxHeartbeats 4000000
/-! KS: defs, methods and classes by name; the readings' steps, one lemma each, for walk_at "go". -/
namespace KG
open PySem PySem.Spec PyProof.Rows L2

/-! ### defs by name -/
/-- how the arguments of a def of the text bind, by place -/
def BindOk (x qual : Str) (st : Stmt) (ps : List Str) : Prop := ∀ (kV doc pm : Value) (an : Option Addr) (cdv ct : Value) (us : List Value), us.length = ps.length →
  bindArgs (PySem.W.fnOf x qual (defArgs st) (defBody st) (defScope st) .none kV doc pm an cdv ct) ⟨us, []⟩ = pure (ps.zip us)
/-- .. n by place, then by keywords, is: the keywords' places -/
def BindOkK (x qual : Str) (st : Stmt) (ps : List Str) (n : Nat) (ks : List Str) (is : List Nat) : Prop := ∀ (kV doc pm : Value) (an : Option Addr) (cdv ct : Value) (us ws : List Value), us.length = n → ws.length = ks.length →
  bindArgs (PySem.W.fnOf x qual (defArgs st) (defBody st) (defScope st) .none kV doc pm an cdv ct) ⟨us, ks.zip ws⟩ = pure (ps.zip (us ++ sel is ws))
/-- the def st stands under the name x -/
structure DefAt (K : PySem.W.Frag) (mg : Str → Option Value) (x : Str) (st : Stmt) (ps : List Str) : Prop where
  ex : ∃ f fd, mg x = some (.ref f) ∧ Fun K x x st f fd ∧ Binds K fd ps []
theorem defAt_of {K : PySem.W.Frag} {h : Heap} {mg : Str → Option Value} (X : K.In h) (G : h.Ns mainGlobals mg) {x : Str} {st : Stmt} {ps : List Str} {f : Addr} {oc kV doc pm cdv ct : Value} {od an : Option Addr} {sl : Array (Option Value)}
    (a : PySem.W.nsIn K mainGlobals x = some (some (.ref f))) (l : K.lookup f = some ⟨oc, od, .func (PySem.W.fnOf x x (defArgs st) (defBody st) (defScope st) .none kV doc pm an cdv ct), sl⟩)
    (c : PySem.W.codeIn K cdv x = true) (k : PySem.W.keepIn K (.ref f) = true) (b : BindOk x x st ps) : DefAt K mg x st ps :=
  have F := fun_mk (st := st) l c k
  ⟨⟨f, _, PySem.W.mg_of X G a, F, F.binds b⟩⟩
/-- the method st of the class at C -/
structure MetAt (K : PySem.W.Frag) (C : Addr) (m qual : Str) (st : Stmt) (ps : List Str) (f : Addr) : Prop where
  ex : ∃ fd, Meth K C m f ∧ Fun K m qual st f fd ∧ Binds K fd ps []
theorem metAt_of {K : PySem.W.Frag} {C : Addr} {m qual : Str} {st : Stmt} {ps : List Str} {f : Addr} {oc kV doc pm cdv ct : Value} {od an : Option Addr} {sl : Array (Option Value)}
    (a : PySem.W.findIn K (.ref C) m = some (some (.ref f))) (i : PySem.W.isFn K (.ref f) = true) (l : K.lookup f = some ⟨oc, od, .func (PySem.W.fnOf m qual (defArgs st) (defBody st) (defScope st) .none kV doc pm an cdv ct), sl⟩)
    (c : PySem.W.codeIn K cdv qual = true) (k : PySem.W.keepIn K (.ref f) = true) (b : BindOk m qual st ps) : MetAt K C m qual st ps f :=
  have F := fun_mk (st := st) l c k
  ⟨⟨_, ⟨a, i, k⟩, F, F.binds b⟩⟩
/-- the def st, promised sp, nothing raised -/
def Cal (P : Program) (w : World) (K : PySem.W.Frag) (mg : Str → Option Value) (base : Heap) (j : Nat) (x : Str) (sp : Sp) : Prop :=
  ∃ f fd ps, mg x = some (.ref f) ∧ PySem.W.keepIn K (.ref f) = true ∧ Binds K fd ps [] ∧ Gd P w K mg base CX0 j f fd ps sp
def Met (P : Program) (w : World) (K : PySem.W.Frag) (mg : Str → Option Value) (base : Heap) (j : Nat) (C : Addr) (m : Str) (f : Addr) (sp : Sp) : Prop :=
  ∃ fd ps, Meth K C m f ∧ Binds K fd ps [] ∧ Gd P w K mg base CX0 j f fd ps sp
def MetK (P : Program) (w : World) (K : PySem.W.Frag) (mg : Str → Option Value) (base : Heap) (j : Nat) (C : Addr) (m : Str) (f : Addr) (ks : List Str) (is : List Nat) (sp : Sp) : Prop :=
  ∃ fd ps, Meth K C m f ∧ KBn K fd ps 1 ks (fun us ws => us ++ sel is ws) (fun vs zs => vs ++ sel is zs) ∧ Gd P w K mg base CX0 j f fd ps sp
section
variable {P : Program} {w : World} {K : PySem.W.Frag} {mg : Str → Option Value} {base : Heap} {k : Nat} {x m qual : Str} {st : Stmt} {ps N : List Str} {sp : Sp} {C f : Addr}
/-- a def by its body -/
theorem DefAt.cal (D : DefAt K mg x st ps) (sc : FnScope N ps (defScope st)) (len : ∀ vs H Q E, sp vs H Q E → vs.length = ps.length)
    (inner : ∀ (f : Addr) (cdv : Value) (A : Around) (outer : List Env) (s : Shared) (H : Hp) (vs : List V) (Q : VK) (E : XK),
      Room k (A.deeper (envOfC x (defScope st) s.heap.objs.size f cdv)) → (A.deeper (envOfC x (defScope st) s.heap.objs.size f cdv)).guards = some [] → sp vs H Q E →
      ∃ t, PSs (cxOf CX0 P w K mg base N x (defScope st) f cdv A outer s H E).nox (defBody st) t ∧ t { nx := fun _ H' => Q .non H', rt := Q } (start N vs) H) :
    Cal P w K mg base (k + 1) x sp := by
  obtain ⟨f, fd, a, F, b⟩ := D.ex
  exact ⟨f, fd, ps, a, F.kp, b, gd0 F sc len (inner f)⟩
theorem MetAt.gd (D : MetAt K C m qual st ps f) (sc : FnScope N ps (defScope st)) (len : ∀ vs H Q E, sp vs H Q E → vs.length = ps.length)
    (inner : ∀ (cdv : Value) (A : Around) (outer : List Env) (s : Shared) (H : Hp) (vs : List V) (Q : VK) (E : XK),
      Room k (A.deeper (envOfC qual (defScope st) s.heap.objs.size f cdv)) → (A.deeper (envOfC qual (defScope st) s.heap.objs.size f cdv)).guards = some [] → sp vs H Q E →
      ∃ t, PSs (cxOf CX0 P w K mg base N qual (defScope st) f cdv A outer s H E).nox (defBody st) t ∧ t { nx := fun _ H' => Q .non H', rt := Q } (start N vs) H) :
    ∃ fd, Meth K C m f ∧ Fun K m qual st f fd ∧ Binds K fd ps [] ∧ Gd P w K mg base CX0 (k + 1) f fd ps sp := by
  obtain ⟨fd, a, F, b⟩ := D.ex
  exact ⟨fd, a, F, b, gd0 F sc len inner⟩
end
section
variable {X : Cx} {j k : Nat} {x m qual : Str} {sp : Sp} {C f : Addr} {p pos apos : Pos} {e o : Expr} {es : List Expr} {kws : List Keyword} {ta te : TE} {t tk : TA} {ks : List Str} {is : List Nat} {pl : Sem Bool}
theorem pc (c : Cal X.prog X.w X.K X.mg X.base j x sp) (rm : Room k X.A) (hk : j ≤ k) (gd : X.A.guards = some []) (gl : Gl X x) (ha : PA X (e :: es) t)
    (hdb : (x == ("__debug__" : Str)) = false := by decide) (he : starEach (e :: es) X.env = (false, eval e X.env) :: starEach es X.env := by rfl) (hpl : (backTo pos (starEach es X.env)).any (·.1) = false := by rfl) :
    PE X (.Call (.Name x p) (e :: es) [] pos) (tCall sp [] E0 t) := by
  obtain ⟨f, fd, ps, a, kp, b, F⟩ := c
  exact pe_gcall F (rm.mono hk) gd gl a kp b .nil pass0 ha hdb he hpl
theorem pc0 (c : Cal X.prog X.w X.K X.mg X.base j x sp) (rm : Room k X.A) (hk : j ≤ k) (gd : X.A.guards = some []) (gl : Gl X x)
    (hdb : (x == ("__debug__" : Str)) = false := by decide) : PE X (.Call (.Name x p) [] [] pos) (tCall sp [] E0 tNil) := by
  obtain ⟨f, fd, ps, a, kp, b, F⟩ := c
  exact pe_gcall0 F (rm.mono hk) gd gl a kp b .nil pass0 hdb
theorem pm (c : Met X.prog X.w X.K X.mg X.base j C m f sp) (cl : Cls X.K C) (rm : Room k X.A) (hk : j ≤ k) (gd : X.A.guards = some []) (he : PE X o ta) (ha : PA X (e :: es) t)
    (hst : starEach (e :: es) X.env = (false, eval e X.env) :: starEach es X.env := by rfl) (hpl : (backTo pos (starEach es X.env)).any (·.1) = false := by rfl)
    (ht : eval (.Call (.Attribute o m apos) (e :: es) [] pos) X.env = (do
      let w ← eval o X.env
      standAt apos.atName
      let (g, a) ← holding [w] (getMethod w m pl)
      callWith pos g a (backTo pos (starEach (e :: es) X.env)) (backToKw pos (keywordEach [] X.env))) := by rfl) :
    PE X (.Call (.Attribute o m apos) (e :: es) [] pos) (tMeth C m sp [] E0 ta t) := by
  obtain ⟨fd, ps, hm, b, F⟩ := c
  exact pe_gmeth he cl hm F (rm.mono hk) gd b .nil pass0 ha hst hpl ht
theorem pm0 (c : Met X.prog X.w X.K X.mg X.base j C m f sp) (cl : Cls X.K C) (rm : Room k X.A) (hk : j ≤ k) (gd : X.A.guards = some []) (he : PE X o ta)
    (ht : eval (.Call (.Attribute o m apos) [] [] pos) X.env = (do
      let w ← eval o X.env
      standAt apos.atName
      let (g, a) ← holding [w] (getMethod w m pl)
      callWith pos g a (backTo pos (starEach [] X.env)) (backToKw pos (keywordEach [] X.env))) := by rfl) :
    PE X (.Call (.Attribute o m apos) [] [] pos) (tMeth C m sp [] E0 ta tNil) := by
  obtain ⟨fd, ps, hm, b, F⟩ := c
  exact pe_gmeth0 he cl hm F (rm.mono hk) gd b .nil pass0 ht
theorem pmK (c : MetK X.prog X.w X.K X.mg X.base j C m f ks is sp) (cl : Cls X.K C) (rm : Room k X.A) (hk : j ≤ k) (gd : X.A.guards = some []) (he : PE X o ta) (hkw : PK X kws tk)
    (hall : (backToKw pos (keywordEach kws X.env)).all (·.1.isSome) = true := by rfl) (hks : (backToKw pos (keywordEach kws X.env)).filterMap (·.1) = ks := by rfl)
    (hpl : ((backTo pos (starEach [] X.env)).any (·.1) || (backToKw pos (keywordEach kws X.env)).any (·.1.isNone)) = false := by rfl)
    (ht : eval (.Call (.Attribute o m apos) [] kws pos) X.env = (do
      let w ← eval o X.env
      standAt apos.atName
      let (g, a) ← holding [w] (getMethod w m pl)
      callWith pos g a (backTo pos (starEach [] X.env)) (backToKw pos (keywordEach kws X.env))) := by rfl) :
    PE X (.Call (.Attribute o m apos) [] kws pos) (tMethK C m ks.length sp (fun vs zs => vs ++ sel is zs) E0 ta tk) := by
  obtain ⟨fd, ps, hm, b, F⟩ := c
  exact pe_gmethK he cl hm F (rm.mono hk) gd b pass0 hkw hall hks hpl ht
end

/-! ### ways that meet behind a statement -/
def tMid (t u : TS) : TS := fun D σ H => ∃ M : L2.St → Hp → Prop, t { D with nx := M } σ H ∧ ∀ σ' H', M σ' H' → u D σ' H'
theorem pss_mid {X : Cx} {st : Stmt} {rest : List Stmt} {t u : TS} (h1 : PS X st t) (h2 : PSs X rest u) : PSs X (st :: rest) (tMid t u) := by
  refine ⟨fun pins s σ H D I h => ?_⟩
  obtain ⟨M, a, b⟩ := h
  refine wpAny_execs_cons (thn (h1.run pins s σ H { D with nx := M } I a) fun f s1 q => ?_)
  match f, q with
  | .next, ⟨σ', H', J, q⟩ => exact h2.run pins s1 σ' H' D J (b σ' H' q)
  | .ret v, q => exact q
  | .brk, q => exact q
  | .cont, q => exact q

/-! ### steps -/
/-- what a field's read, a field's store asks -/
def Fld (K : PySem.W.Frag) (f : Str) (x : V) (H : Hp) (Q : VK) : Prop := ∃ a C dx fs v, x = .ref a ∧ H a = some (.ins C dx fs) ∧ Cls K C ∧ NoAttr K C f ∧ fs.lookup f = some v ∧ Q v H
theorem fld {K : PySem.W.Frag} {f : Str} {a C dx : Addr} {fs : List (Str × V)} {v : V} {H : Hp} {Q : VK} (h : H a = some (.ins C dx fs)) (c : Cls K C) (n : NoAttr K C f) (l : fs.lookup f = some v) (q : Q v H) : Fld K f (.ref a) H Q := ⟨a, C, dx, fs, v, rfl, h, c, n, l, q⟩
def SFld (K : PySem.W.Frag) (f : Str) (y x : V) (H : Hp) (QH : Hp → Prop) : Prop := ∃ a C dx fs, x = .ref a ∧ H a = some (.ins C dx fs) ∧ Cls K C ∧ NoAttr K C f ∧ fs.length < 1000 ∧ QH (upd H a (.ins C dx (putF f y fs)))
/-- .. the heap behind it a letter -/
theorem sfld {K : PySem.W.Frag} {f : Str} {a C dx : Addr} {fs gs : List (Str × V)} {y : V} {H : Hp} {QH : Hp → Prop} (h : H a = some (.ins C dx fs)) (c : Cls K C) (n : NoAttr K C f) (l : fs.length < 1000) (e : putF f y fs = gs)
    (q : ∀ H' : Hp, H' a = some (.ins C dx gs) → (∀ b, b ≠ a → H' b = H b) → QH H') : SFld K f y (.ref a) H QH := ⟨a, C, dx, fs, rfl, h, c, n, l, q _ (by rw [← e]; exact upd_same) fun b nb => upd_ne nb⟩
/-- what the making of an instance asks -/
def Make (C : Addr) (sp : Sp) (args : V → List V) (E : XK) (H : Hp) (Q : VK) : Prop := ∀ x dx, H x = none → H dx = none → dx ≠ x → sp (args (.ref x)) (upd (upd H dx (.own x)) x (.ins C dx [])) (fun v H3 => v = .non ∧ Q (.ref x) H3) E
theorem make {C : Addr} {sp : Sp} {args : V → List V} {E : XK} {H : Hp} {Q : VK} (q : ∀ (x dx : Addr) (H' : Hp), H x = none → H' x = some (.ins C dx []) → Same H H' → sp (args (.ref x)) H' (fun v H3 => v = .non ∧ Q (.ref x) H3) E) : Make C sp args E H Q :=
  fun x dx nx ndx _ => q x dx _ nx upd_same fun b o e => by
    rw [upd_ne (ne_of_none e nx), upd_ne (ne_of_none e ndx)]
    exact e
/-- a dict's display, store and read -/
def DAll (p : Addr) (ps : List (V × V)) (Q : VK) (H : Hp) : Prop := H p = some (.dK []) ∧ ∃ kvs : List (Key × V), ps = kvs.map (fun kv => (kV kv.1, kv.2)) ∧ kvs.length ≤ 15 ∧ Q (.ref p) (upd H p (.dK (mergeK [] kvs)))
theorem dall {p : Addr} {ps : List (V × V)} {Q : VK} {H : Hp} {ks : List (Key × V)} (kvs : List (Key × V)) (h : H p = some (.dK [])) (e : ps = kvs.map (fun kv => (kV kv.1, kv.2))) (l : kvs.length ≤ 15) (m : mergeK [] kvs = ks)
    (q : ∀ H' : Hp, H' p = some (.dK ks) → (∀ b, b ≠ p → H' b = H b) → Q (.ref p) H') : DAll p ps Q H := ⟨h, kvs, e, l, q _ (by rw [← m]; exact upd_same) fun b nb => upd_ne nb⟩
def DPutQ (v x y : V) (H : Hp) (QH : Hp → Prop) : Prop := ∃ a H4, x = .ref a ∧ DPut H a y v H4 ∧ QH H4
theorem dput {v : V} {p : Addr} {H : Hp} {QH : Hp → Prop} {kvs ks : List (Key × V)} (k : Key) (h : H p = some (.dK kvs)) (l : kvs.length < sizeLine) (m : putK kvs k v = ks)
    (q : ∀ H' : Hp, H' p = some (.dK ks) → (∀ b, b ≠ p → H' b = H b) → QH H') : DPutQ v (.ref p) (kV k) H QH := ⟨p, _, rfl, DPut.k h l, q _ (by rw [← m]; exact upd_same) fun b nb => upd_ne nb⟩
def DGetQ (x y : V) (H : Hp) (Q : VK) : Prop := ∃ a v, x = .ref a ∧ DGet H a y (some v) ∧ Q v H
theorem dget {v : V} {p : Addr} {H : Hp} {Q : VK} {kvs : List (Key × V)} (k : Key) (h : H p = some (.dK kvs)) (e : valV kvs k = some v) (q : Q v H) : DGetQ (.ref p) (kV k) H Q := ⟨p, v, rfl, by rw [← e]; exact DGet.k h, q⟩
/-- what a for asks -/
def Loop (J : It) (g : TG) (tb : TS) (D : Ends) (σ : L2.St) (H : Hp) : Prop := ∃ W : Nat → Nat → L2.St → Hp → Prop, (∃ m, W 0 m σ H) ∧ ∀ i m σ H, W i m σ H →
  (J.stop i H ∧ D.nx σ H) ∨ (J.go i H ∧ ∃ N : L2.St → Hp → Prop, (∀ σ' H', N σ' H' → ∃ m', m' < m ∧ W (i + 1) m' σ' H') ∧ ∀ x H', J.yld i H x H' → g x σ H' fun σ2 H2 => tb { D with nx := N, ct := N, bk := D.nx } σ2 H2)
def OverT (K : PySem.W.Frag) (x : V) (H : Hp) (R : It → Hp → Prop) : Prop := ∃ a, x = .ref a ∧ (∃ xs, SqT K H a xs) ∧ R (Itt K a) H
theorem over_t {K : PySem.W.Frag} {a : Addr} {xs : List V} {H : Hp} {R : It → Hp → Prop} (h : SqT K H a xs) (q : R (Itt K a) H) : OverT K (.ref a) H R := ⟨a, rfl, ⟨xs, h⟩, q⟩
def OverL (K : PySem.W.Frag) (x : V) (H : Hp) (R : It → Hp → Prop) : Prop := ∃ a, x = .ref a ∧ (∃ xs, SqL K H a xs) ∧ R (Itl K a) H
theorem over_l {K : PySem.W.Frag} {a : Addr} {xs : List V} {H : Hp} {R : It → Hp → Prop} (h : SqL K H a xs) (q : R (Itl K a) H) : OverL K (.ref a) H R := ⟨a, rfl, ⟨xs, h⟩, q⟩
def OverR (vs : List V) (H : Hp) (R : It → Hp → Prop) : Prop := ∃ j : Int, vs = [.int j] ∧ -(2 ^ 62) ≤ j ∧ j < 2 ^ 62 ∧ R (Itr 0 j.toNat) H
theorem over_r {j : Int} {H : Hp} {R : It → Hp → Prop} (h1 : -(2 ^ 62) ≤ j) (h2 : j < 2 ^ 62) (q : R (Itr 0 j.toNat) H) : OverR [.int j] H R := ⟨j, rfl, h1, h2, q⟩
/-- what a method's call asks of the object -/
def Mth (C : Addr) (m : Str) (x : V) (H : Hp) (B : Prop) : Prop := ∃ a dx fs, x = .ref a ∧ H a = some (.ins C dx fs) ∧ fs.lookup m = none ∧ B
theorem mth {C a dx : Addr} {m : Str} {fs : List (Str × V)} {H : Hp} {B : Prop} (h : H a = some (.ins C dx fs)) (l : fs.lookup m = none) (q : B) : Mth C m (.ref a) H B := ⟨a, dx, fs, rfl, h, l, q⟩
/-- a tuple of the written part -/
def KTup (K : PySem.W.Frag) (a : Addr) (xs : List V) : Prop := ∃ (o : Obj) (its : Array Value) (n : Nat), K.lookup a = some o ∧ o.cls = .type "tuple" ∧ o.data = .seq its n ∧ its.size ≤ sizeLine ∧ Vals xs its.toList
theorem KTup.t {K : PySem.W.Frag} {a : Addr} {xs : List V} (h : KTup K a xs) (H : Hp) : SqT K H a xs := .inr h
/-- what a display asks: a new object -/
def New (o : List V → HO) (Q : VK) (xs : List V) (H : Hp) : Prop := xs.length ≤ sizeLine ∧ ∀ p, H p = none → Q (.ref p) (upd H p (o xs))
/-- .. the heap behind it a letter -/
theorem new {o : List V → HO} {Q : VK} {xs : List V} {H : Hp} (h : xs.length ≤ sizeLine) (q : ∀ (p : Addr) (H' : Hp), H p = none → H' p = some (o xs) → Same H H' → Q (.ref p) H') : New o Q xs H :=
  ⟨h, fun p np => q p _ np upd_same fun b u e => by rw [upd_ne (ne_of_none e np)]; exact e⟩
section
variable {σ : L2.St} {H : Hp} {Q : VK} {v : V} {ta tb te : TE} {t u : TS} {D : Ends} {i j : Int} {tc : TT} {QB : Bool → Hp → Prop} {QA : List V → Hp → Prop} {tr : TA} {r : R2}
theorem w_var {n : Nat} (h : σ[n]? = some (some v)) (q : Q v H) : tVar n σ H Q := ⟨v, h, q⟩
theorem w_c (q : Q v H) : tC v σ H Q := q
theorem w_op (q : ta σ H fun x H1 => tb σ H1 fun y H2 => r x y H2 Q) : tOp r ta tb σ H Q := q
theorem w_un {r : V → Hp → VK → Prop} (q : ta σ H fun x H1 => r x H1 Q) : tUn r ta σ H Q := q
theorem w_add (q : Q (.int (i + j)) H) : rI0 (fun i j => .int (i + j)) (.int i) (.int j) H Q := ⟨i, j, rfl, rfl, q⟩
theorem w_sub (q : Q (.int (i - j)) H) : rI0 (fun i j => .int (i - j)) (.int i) (.int j) H Q := ⟨i, j, rfl, rfl, q⟩
theorem w_mul (c : CMul i j) (q : Q (.int (i * j)) H) : rI CMul (fun i j => .int (i * j)) (.int i) (.int j) H Q := ⟨i, j, rfl, rfl, c, q⟩
theorem w_mod (c : 0 < j) (q : Q (.int (i % j)) H) : rI (fun _ j => 0 < j) (fun i j => .int (i % j)) (.int i) (.int j) H Q := ⟨i, j, rfl, rfl, c, q⟩
theorem w_fdiv (c : CDiv i j) (q : Q (.int (i / j)) H) : rI CDiv (fun i j => .int (i / j)) (.int i) (.int j) H Q := ⟨i, j, rfl, rfl, c, q⟩
theorem w_pow (c : CPow i j) (q : Q (.int (i ^ j.toNat)) H) : rI CPow (fun i j => .int (i ^ j.toNat)) (.int i) (.int j) H Q := ⟨i, j, rfl, rfl, c, q⟩
theorem w_and (q : Q (.int (Builtin.bitAnd i j)) H) : rI0 (fun i j => .int (Builtin.bitAnd i j)) (.int i) (.int j) H Q := ⟨i, j, rfl, rfl, q⟩
theorem w_or (q : Q (.int (Builtin.bitOr i j)) H) : rI0 (fun i j => .int (Builtin.bitOr i j)) (.int i) (.int j) H Q := ⟨i, j, rfl, rfl, q⟩
theorem w_xor (q : Q (.int (Builtin.bitXor i j)) H) : rI0 (fun i j => .int (Builtin.bitXor i j)) (.int i) (.int j) H Q := ⟨i, j, rfl, rfl, q⟩
theorem w_gt (q : Q (.bl (decide (j < i))) H) : rI0 (fun i j => .bl (decide (j < i))) (.int i) (.int j) H Q := ⟨i, j, rfl, rfl, q⟩
theorem w_lt (q : Q (.bl (decide (i < j))) H) : rI0 (fun i j => .bl (decide (i < j))) (.int i) (.int j) H Q := ⟨i, j, rfl, rfl, q⟩
theorem w_ge (q : Q (.bl (decide (j ≤ i))) H) : rI0 (fun i j => .bl (decide (j ≤ i))) (.int i) (.int j) H Q := ⟨i, j, rfl, rfl, q⟩
theorem w_le (q : Q (.bl (decide (i ≤ j))) H) : rI0 (fun i j => .bl (decide (i ≤ j))) (.int i) (.int j) H Q := ⟨i, j, rfl, rfl, q⟩
theorem w_eq {x y : V} (s : scal x y = true) (q : Q (.bl (decide (x = y))) H) : rEq x y H Q := ⟨s, q⟩
theorem w_ne {x y : V} (s : scal x y = true) (q : Q (.bl (!decide (x = y))) H) : rNe x y H Q := ⟨s, q⟩
theorem w_test (q : te σ H fun x H' => ∃ k, x = .bl k ∧ QB k H') : tTest te σ H QB := q
theorem w_tB (q : te σ H fun x H' => ∃ k, x = .bl k ∧ QB k H') : tB te σ H QB := q
theorem w_bl {b : Bool} {B : Bool → Prop} (q : B b) : ∃ k, V.bl b = .bl k ∧ B k := ⟨b, rfl, q⟩
theorem w_seq (q : t { D with nx := u D } σ H) : tSeq t u D σ H := q
theorem w_ret (q : te σ H D.rt) : tRet te D σ H := q
theorem w_next (q : D.nx σ H) : tNext D σ H := q
theorem w_asg {g : TG} (q : te σ H fun x H1 => g x σ H1 D.nx) : tAsg te g D σ H := q
theorem w_gname {n : Nat} {QS : L2.St → Hp → Prop} (q : QS (σ.set n (some v)) H) : gName n v σ H QS := q
theorem w_ifs (q : tc σ H fun b H1 => if b = true then t D σ H1 else u D σ H1) : tIfS tc t u D σ H := q
theorem w_ifx (q : tc σ H fun c H1 => if c = true then ta σ H1 Q else tb σ H1 Q) : tIf tc ta tb σ H Q := q
theorem w_nil (q : QA [] H) : tNil σ H QA := q
theorem w_cons (q : ta σ H fun x H1 => tr σ H1 fun xs H2 => QA (x :: xs) H2) : tCons ta tr σ H QA := q
theorem w_tup (q : tr σ H fun xs H1 => New HO.tup Q xs H1) : tTup tr σ H Q := q
theorem w_lst (q : tr σ H fun xs H1 => New HO.lst Q xs H1) : tLst tr σ H Q := q
theorem w_and2 {tt uu : TT} (q : tt σ H fun c H1 => if c = true then uu σ H1 QB else QB false H1) : tAnd tt uu σ H QB := q
theorem w_or2 {tt uu : TT} (q : tt σ H fun c H1 => if c = true then QB true H1 else uu σ H1 QB) : tOr tt uu σ H QB := q
theorem w_not {tt : TT} (q : tt σ H fun c H1 => QB (!c) H1) : tNot tt σ H QB := q
theorem w_cb {r : List V → Hp → VK → Prop} (q : tr σ H fun vs H1 => r vs H1 Q) : tCB r tr σ H Q := q
theorem w_call {sp : Sp} {dvs : List V} {E : XK} (q : tr σ H fun vs H1 => sp (vs ++ dvs) H1 Q E) : tCall sp dvs E tr σ H Q := q
theorem w_ixL {K : PySem.W.Frag} {p : Addr} {xs : List V} (h : SqL K H p xs) (a : atI xs i = some v) (q : Q v H) : rIxL K (.ref p) (.int i) H Q := ⟨p, xs, i, v, rfl, rfl, h, a, q⟩
theorem w_ixT {K : PySem.W.Frag} {p : Addr} {xs : List V} (h : SqT K H p xs) (a : atI xs i = some v) (q : Q v H) : rIxT K (.ref p) (.int i) H Q := ⟨p, xs, i, v, rfl, rfl, h, a, q⟩
theorem w_gsub {to ti : TE} {ts : TSet} {QS : L2.St → Hp → Prop} (q : to σ H fun o H1 => ti σ H1 fun i H2 => ts o i v H2 fun H3 => QS σ H3) : gSub to ti ts v σ H QS := q
theorem w_setL {p : Addr} {xs : List V} {n : Nat} {QH : Hp → Prop} (h : H p = some (.lst xs)) (a : ixN xs.length i = some n) (q : QH (upd H p (.lst (xs.set n v)))) : rSetL (.ref p) (.int i) v H QH := ⟨p, xs, i, n, rfl, rfl, h, a, q⟩
/-- the store, the heap behind it a letter -/
theorem w_setG {p : Addr} {xs ys : List V} {n : Nat} {QH : Hp → Prop} (h : H p = some (.lst xs)) (a : ixN xs.length i = some n) (e : xs.set n v = ys)
    (q : ∀ H' : Hp, H' p = some (.lst ys) → (∀ b, b ≠ p → H' b = H b) → QH H') : rSetL (.ref p) (.int i) v H QH := ⟨p, xs, i, n, rfl, rfl, h, a, q _ (by rw [← e]; exact upd_same) fun b nb => upd_ne nb⟩
theorem w_fld {K : PySem.W.Frag} {f : Str} (q : ta σ H fun x H1 => Fld K f x H1 Q) : tFld K ta f σ H Q := q
theorem w_sfld {K : PySem.W.Frag} {tv : TE} {f : Str} (q : tv σ H fun y H1 => ta σ H1 fun x H2 => SFld K f y x H2 (fun H3 => D.nx σ H3)) : sFld K ta tv f D σ H := q
theorem w_par {m n : Nat} {ta : TA} (q : ta σ H fun vs H1 => ∃ v w, vs = [v, w] ∧ D.nx ((σ.set m (some v)).set n (some w)) H1) : tPar m n ta D σ H := q
theorem w_andV {ta tb : TE} (q : ta σ H fun x H1 => ∃ c, x = .bl c ∧ if c = true then tb σ H1 Q else Q (.bl false) H1) : tAndV ta tb σ H Q := q
theorem w_orV {ta tb : TE} (q : ta σ H fun x H1 => ∃ c, x = .bl c ∧ if c = true then Q (.bl true) H1 else tb σ H1 Q) : tOrV ta tb σ H Q := q
theorem w_mid (M : L2.St → Hp → Prop) (a : t { D with nx := M } σ H) (b : ∀ σ' H', M σ' H' → u D σ' H') : tMid t u D σ H := ⟨M, a, b⟩
theorem w_in {K : PySem.W.Frag} {neg : Bool} {x : V} {p : Addr} {xs : List V} (h : SqL K H p xs ∨ SqT K H p xs) (f : flatV x = true) (fs : xs.all flatV = true) (q : Q (.bl (if neg then !inV x xs else inV x xs)) H) : rIn K neg x (.ref p) H Q := ⟨p, xs, rfl, h, f, fs, q⟩
theorem w_kd {K : PySem.W.Frag} {w : World} {p : Addr} {z : Str} (h : KDct K w p z v) (q : Q v H) : rIxD K w (.ref p) (.str z) H Q := ⟨p, z, v, rfl, rfl, h, q⟩
theorem w_meth {C : Addr} {m : Str} {sp : Sp} {dvs : List V} {E : XK} {tr : TA} (q : ta σ H fun x H1 => Mth C m x H1 (tr σ H1 fun vs H2 => sp (x :: (vs ++ dvs)) H2 Q E)) : tMeth C m sp dvs E ta tr σ H Q := q
theorem w_methK {C : Addr} {m : Str} {n : Nat} {sp : Sp} {gV : List V → List V → List V} {E : XK} {tr : TA} (q : ta σ H fun x H1 => Mth C m x H1 (tr σ H1 fun zs H2 => zs.length = n ∧ sp (gV [x] zs) H2 Q E)) : tMethK C m n sp gV E ta tr σ H Q := q
theorem w_for {wi : TI} {g : TG} {tb : TS} (q : wi σ H fun J H1 => Loop J g tb D σ H1) : tFor wi g tb D σ H := q
theorem w_itup {K : PySem.W.Frag} {tl : TE} {R : It → Hp → Prop} (q : tl σ H fun x H1 => OverT K x H1 R) : iTup K tl σ H R := q
theorem w_ilist {K : PySem.W.Frag} {tl : TE} {R : It → Hp → Prop} (q : tl σ H fun x H1 => OverL K x H1 R) : iList K tl σ H R := q
theorem w_irng {ta : TA} {R : It → Hp → Prop} (q : ta σ H fun vs H1 => OverR vs H1 R) : iRng1 ta σ H R := q
theorem w_disp {trs : List (TE × TE)} (q : ∀ (p : Addr) (H1 : Hp), H p = none → H1 p = some (.dK []) → Same H H1 → tPairs trs σ H1 fun ps H2 => DAll p ps Q H2) : tDisp trs σ H Q :=
  fun p np => q p _ np upd_same fun b u e => by rw [upd_ne (ne_of_none e np)]; exact e
theorem w_pnil {QP : List (V × V) → Hp → Prop} (q : QP [] H) : tPairs [] σ H QP := q
theorem w_pcons {tk tv : TE} {r : List (TE × TE)} {QP : List (V × V) → Hp → Prop} (q : tk σ H fun x H1 => tv σ H1 fun y H2 => tPairs r σ H2 fun ps H3 => QP ((x, y) :: ps) H3) : tPairs ((tk, tv) :: r) σ H QP := q
theorem w_dput {td ty tv : TE} (q : tv σ H fun v H1 => td σ H1 fun x H2 => ty σ H2 fun y H3 => DPutQ v x y H3 (fun H4 => D.nx σ H4)) : sDPut td ty tv D σ H := q
theorem w_dget {td ty : TE} (q : td σ H fun x H1 => ty σ H1 fun y H2 => DGetQ x y H2 Q) : tDGet td ty σ H Q := q
theorem w_make {C : Addr} {sp : Sp} {dvs : List V} {E : XK} {tr : TA} (q : tr σ H fun vs H1 => Make C sp (fun x => x :: (vs ++ dvs)) E H1 Q) : tMake C sp dvs E tr σ H Q := q
theorem w_makeK {C : Addr} {n : Nat} {sp : Sp} {gV : List V → List V → List V} {E : XK} {tr : TA} (q : tr σ H fun zs H2 => zs.length = n ∧ Make C sp (fun x => gV [x] zs) E H2 Q) : tMakeKG C n sp gV E tr σ H Q := q
theorem w_drop (q : te σ H fun _ H1 => D.nx σ H1) : tDrop te D σ H := q
end
end KG

set_option Elab.async false
set_option linter.all false
set_option maxRecDepth 100000
set_option maxHeartbeats 4000000
/-! KX: an error that a suite keeps under another name, and what is asked of it later. -/
namespace KG
open PySem PySem.Spec PyProof.Rows L2

/-- a caught error of the class cls at a, its dict d -/
def ErrO (cls : Value) (d : Option Addr) (a : Addr) : HO := .ext fun h => ∃ (oe : Obj) (vs : Array Value), h.get? a = some oe ∧ Zc cls d oe ∧ oe.data = .fields vs
theorem errO_ok {P : Program} {w : World} {H : Hp} {h : Heap} {cls : Value} {d : Option Addr} {a : Addr} {oe : Obj} {vs : Array Value} (e : h.get? a = some oe) (z : Zc cls d oe) (dd : oe.data = .fields vs) : ObjOk P w H h a (ErrO cls d a) :=
  ⟨⟨oe, vs, e, z, dd⟩, ⟨oe, e⟩, fun _ _ ⟨o, v, q, r⟩ k => ⟨o, v, k o q, r⟩⟩
theorem errO_at {P : Program} {w : World} {H : Hp} {h : Heap} {cls : Value} {d : Option Addr} {a : Addr} (hok : HOk P w H h) (e : H a = some (ErrO cls d a)) : ∃ (oe : Obj) (vs : Array Value), h.get? a = some oe ∧ Zc cls d oe ∧ oe.data = .fields vs := by
  have x : ObjOk P w H h a (.ext fun h => ∃ (oe : Obj) (vs : Array Value), h.get? a = some oe ∧ Zc cls d oe ∧ oe.data = .fields vs) := hok a _ e
  exact x.1

section
variable {X : Cx} {pins : List (Addr × Obj)} {σ : L2.St} {H : Hp} {s : Shared}
/-- an object that was not there at the entry is known from now on -/
theorem inv_know {a : Addr} {oe : Obj} {vs : Array Value} {o : HO} (I : Inv X pins σ H s) (ha : s.heap.get? a = some oe) (hd : oe.data = .fields vs) (new : ObjOk X.prog X.w (upd H a o) s.heap a o) (na : H a = none) (nL : a ≠ X.env.locals)
    (n0 : X.s_0.heap.get? a = none) (np : ∀ p ∈ X.pn ++ pins, p.1 ≠ a) : Inv X pins σ (upd H a o) s := by
  have nT : ∀ {b u}, H b = some u → b ≠ a := fun e => ne_of_none e na
  have nC : ∀ x c, X.env.cells.lookup x = some c → c ≠ a := fun x c e z => by
    obtain ⟨v, oc, e1, e2⟩ := I.cell x c e
    rw [z, ha] at e1
    cases e1
    rw [hd] at e2
    cases e2
  refine ⟨I.ok, I.os, I.bare, ⟨I.base.keep, I.base.slot, fun b u e n hx => ?_, I.base.there, fun b xs e => ?_, fun b u v e => ?_, fun b ps e => ?_⟩, I.loc, I.cell, ?_, fun x c e => ?_, fun p hp => ?_, fun b u e => ?_, I.len⟩
  · rw [upd_ne (fun z => by rw [z, n0] at e; cases e)]
    exact I.base.free b u e n hx
  · have q := I.base.tups b xs e
    rw [upd_ne (nT q)]; exact q
  · have q := I.base.frzs b u v e
    rw [upd_ne (nT q)]; exact q
  · obtain ⟨m, q⟩ := I.base.tbls b ps e
    exact ⟨m, by rw [upd_ne (nT q)]; exact q⟩
  · rw [upd_ne (Ne.symm nL)]; exact I.free
  · rw [upd_ne (nC x c e)]; exact I.freeC x c e
  · obtain ⟨e, n, ne, nf, d⟩ := I.pin p hp
    exact ⟨e, by rw [upd_ne (np p hp)]; exact n, ne, nf, d⟩
  · by_cases hb : b = a
    · subst hb
      rw [upd_same] at e
      cases e
      exact new
    · rw [upd_ne hb] at e
      exact (I.hok b u e).stay (fun c v _ q => q) (fun c q => by rw [upd_ne (nT q)]; exact q) fun c xs q => by rw [upd_ne (nT q)]; exact q
end

/-- what the clause wishes, the error known behind its suite; slot i is the name's -/
def wKeep (K : PySem.W.Frag) (c : Value) (i : Nat) (ts : Addr → Value → Option Addr → TS) (Wout : WX) (D : Ends) : WX := fun cls d σ H => ∃ b, PySem.W.exmOne K cls c = some b ∧
  (b = true → ∀ a, H a = none → ts a cls d
    { nx := fun τ G => D.nx (τ.set i none) (upd G a (ErrO cls d a)), rt := fun v G => D.rt v (upd G a (ErrO cls d a)), bk := fun τ G => D.bk (τ.set i none) (upd G a (ErrO cls d a)), ct := fun τ G => D.ct (τ.set i none) (upd G a (ErrO cls d a)) } (σ.set i (some (.ref a))) H) ∧
  (b = false → Wout cls d σ H)

/-- an object of fields is no frame -/
theorem off_frames {B h : Heap} {l : List Env} {a : Addr} {o : Obj} {vs : Array Value} (ff : h.FunFrames B l) (e : h.get? a = some o) (d : o.data = .fields vs) : a ∉ frs l := by
  intro inside
  have ⟨_, p, ep, plain⟩ := ff.mem inside
  have same : o = p := Option.some.inj (e.symm.trans ep)
  exact plain vs (same ▸ d)
/-- where a caught error lies: beside the frames, the pins and all that was there at the entry -/
structure Beside (X : Cx) (pins : List (Addr × Obj)) (a : Addr) : Prop where
  own : a ≠ X.env.locals
  outer : a ∉ X.fs
  entry : X.s_0.heap.get? a = none
  pinned : ∀ p ∈ X.pn ++ pins, p.1 ≠ a
section
variable {X : Cx} {x n : Str} {c : Value} {i : Nat} {body suite : List Stmt} {b₀ : Stmt} {np pos pos' : Pos} {tb : WX → TS} {ts : Addr → Value → Option Addr → TS} {Wout : WX} {pins : List (Addr × Obj)} {σ : L2.St} {H : Hp} {s : Shared} {D : Ends}
theorem beside_of {B : Heap} {a : Addr} (stk : X.stack = X.env :: X.outer) (fr : X.env.frame = some X.env.locals) (noex : X.ex = []) (I : Inv X pins σ H s) (ground : ∀ b o, s.heap.get? b = some o → b ∉ frs X.stack → B.get? b = some o)
    (fresh : B.get? a = none) (off : a ∉ frs (X.env :: X.outer)) : Beside X pins a := by
  have gap : s.heap.get? a = none := by
    rcases e : s.heap.get? a with _ | o
    · rfl
    · have below := ground a o e (by rw [stk]; exact off)
      exact absurd (fresh.symm.trans below) (by simp)
  constructor
  · intro z
    refine off (List.mem_filterMap.mpr ⟨X.env, .head _, ?_⟩)
    rw [z, fr]
  · intro inside
    have ⟨env, henv, at_⟩ := List.mem_filterMap.mp inside
    exact off (List.mem_filterMap.mpr ⟨env, .tail _ henv, at_⟩)
  · rcases e : X.s_0.heap.get? a with _ | o
    · rfl
    · have ⟨_, still⟩ := I.base.there a o e (by rw [noex]; simp)
      exact absurd (gap.symm.trans still) (by simp)
  · intro p hp z
    have kept := (I.pin p hp).1
    rw [z] at kept
    exact absurd (gap.symm.trans kept) (by simp)
/-- the way out of the suite: the name goes, the error is known -/
theorem way_out {a : Addr} {oe : Obj} {vs : Array Value} {cls : Value} {d : Option Addr} {R : Shared → Prop} (ok : X.Ok) (nd : X.N.Nodup) (place : X.N[i]? = some n) (loc : X.env.kindOf n = some .local) (by_ : Beside X pins a) (z : Zc cls d oe) (dd : oe.data = .fields vs)
    (S : Inv (X.suite a ((a, oe) :: (X.pn ++ pins))) [] σ H s) (next : ∀ s', Inv X pins (σ.set i none) (upd H a (ErrO cls d a)) s' → R s') :
    wpAny (model X.prog X.w) X.A (do bindName X.env n .none; unbindBehindTheSuite X.env n pos') (fun _ s' => R s') X.xe s := by
  refine gone_ok (X := X.suite a ((a, oe) :: (X.pn ++ pins))) (pins := []) S nd place loc fun s' S' => next s' ?_
  have ⟨there, free, _⟩ := S'.pin (a, oe) (List.mem_append_left _ (.head _))
  exact inv_know (S'.unsuite ok) there dd (errO_ok there z dd) free by_.own by_.entry by_.pinned
/-- the clause's class by its name, within the suite's marks -/
theorem class_of_clause {a : Addr} {oe : Obj} {Q E : Value → Shared → Prop} (hc : Names X x c) (S : Inv (X.suite a ((a, oe) :: (X.pn ++ pins))) [] σ H s) (q : Q c s) : wpAny (model X.prog X.w) (X.A.mark (some (.ref a))) (eval (.Name x np) X.env) Q E s := by
  have ⟨glob, plain, from_⟩ := hc
  rcases from_ with own | ⟨no, boot, nn⟩
  · exact ld_glob (X := X.suite a ((a, oe) :: (X.pn ++ pins))) S glob own q plain
  · exact ld_blt (X := X.suite a ((a, oe) :: (X.pn ++ pins))) S glob no boot q nn plain
/-- an error that comes out of the body meets the clause -/
theorem clause_meets {xe₀ : Value → Shared → Prop} {u : Value} {s' : Shared} (stk : X.stack = X.env :: X.outer) (fr : X.env.frame = some X.env.locals) (noex : X.ex = []) (nd : X.N.Nodup) (place : X.N[i]? = some n) (loc : X.env.kindOf n = some .local) (hc : Names X x c) (tk : Takes X Wout)
    (inner : ∀ (a : Addr) (oe : Obj) (cls : Value) (d : Option Addr) (pn : List (Addr × Obj)), Zc cls d oe → (∃ vs, oe.data = .fields vs) → PSs (X.suite a ((a, oe) :: pn)) (b₀ :: suite) (ts a cls d)) (ok : X.Ok) (xx : XE (X.tr (X.pn ++ pins) xe₀) (wKeep X.K c i ts Wout D) u s') :
    wpAny (model X.prog X.w) X.A (noteFrame u X.env) (fun _ s₂ => wpAny (model X.prog X.w) X.A (setFlight u none) (fun _ s₃ => wpAny (model X.prog X.w) X.A (handleBy u X.env [.ExceptHandler (some (.Name x np)) (some n) (b₀ :: suite) pos']) (SP X pins D) X.xe s₃) X.xe s₂) X.xe s' := by
  have ⟨a, B, sI, _, τ, G, cls, d, eu, J', ground, grown, sky, free, os, bare, b, which, yes, no⟩ := xx
  subst eu
  have J : Inv X pins τ G sI := J'.ofTry ok
  have all_frames : X.A.frames = some (X.env :: X.outer) := stk ▸ ok.frames
  refine Sky.land (Zc.steady (cls := cls) (d := d)) all_frames fr (stk ▸ sky) fun h1 fl1 g1 => ?_
  have I1 : Inv X pins τ G { s' with heap := h1 } := J.landed ground fl1.1 (grown.trans g1) os bare
  have ⟨o1, v1, at1, z1, d1⟩ := fl1.there
  have by_ : Beside X pins a := beside_of stk fr noex J ground fl1.2.1 (off_frames fl1.2.2.1 at1 d1)
  have T1 := I1.suite at1 d1 free by_.own by_.outer
  have kind : PySem.W.Looks (model X.prog X.w) h1 (typeOf (.ref a)) cls := fun _ _ _ _ keeps q => wpAny_typeOf_ref (keeps _ _ at1) (z1.1.symm ▸ q)
  refine wpAny_handleBy_cons (codeAny_handlers_test (class_of_clause hc T1 ((PySem.W.exm_one (M := model X.prog X.w) I1.kIn kind which).here ?_))) (fun z => nomatch z)
  rcases b with _ | _
  · -- another clause's, or nobody's: it goes on
    refine wpAny_handleBy_nil ?_
    have goes : wpAny (model X.prog X.w) X.A (setFlight (.ref a) X.env.frame) (fun _ s₄ => wpAny (model X.prog X.w) X.A (throw (.ref a) : Sem Flow) (SP X pins D) X.xe s₄) X.xe { s' with heap := h1 } := by
      rw [fr]
      exact HandSPX.setFlight_upZ fl1 fun h2 held g2 => wpAny_throw (tk _ _ ⟨a, B, sI, pins, τ, G, cls, d, rfl, J, ground, (grown.trans g1).trans g2, .inr (.inr (by rw [stk]; exact held)), free, os, bare, no rfl⟩)
    have ⟨_, _, _, _, _, T, _, _, atE, _, dE, first, _⟩ := fl1
    unfold PySem.passOn
    refine wpAny_bind (wpAny_field atE dE first ?_)
    have some_ : ¬ ((Value.ref T == Value.none) = true) := by simp
    rw [if_neg some_]
    first
      | exact wpAny_bind (wpAny_pure (wpAny_bind goes))
      | exact wpAny_bind goes
  · -- this clause's: the suite
    refine codeAny_handlers_suite_as (HandSPX.lands_againZ fl1 fun h2 fl2 g2 => ?_)
    have ⟨o2, v2, at2, z2, d2⟩ := fl2.there
    have T2 := (J.landed ground fl2.1 ((grown.trans g1).trans g2) os bare : Inv X pins τ G { s' with heap := h2 }).suite at2 d2 free by_.own by_.outer
    refine store_ok (X := X.suite a ((a, o2) :: (X.pn ++ pins))) (v := .ref a) T2 nd place (.inl loc) rfl (fun s3 T3 => ?_) (.inr loc)
    refine wpAny_mono ((inner a o2 cls d (X.pn ++ pins) z2 ⟨_, d2⟩).run [] s3 _ G _ T3 (yes rfl a free)) (fun flow s4 ends => ?_) (fun _ _ z => False.elim z)
    match flow, ends with
    | .next, ⟨_, _, T4, q⟩ => exact way_out ok nd place loc by_ z2 d2 T4 fun _ I5 => ⟨_, _, I5, q⟩
    | .brk, ⟨_, _, T4, q⟩ => exact way_out ok nd place loc by_ z2 d2 T4 fun _ I5 => ⟨_, _, I5, q⟩
    | .cont, ⟨_, _, T4, q⟩ => exact way_out ok nd place loc by_ z2 d2 T4 fun _ I5 => ⟨_, _, I5, q⟩
    | .ret _, ⟨_, _, _, T4, r, q⟩ => exact way_out ok nd place loc by_ z2 d2 T4 fun _ I5 => ⟨_, _, _, I5, r, q⟩
/-- try: body / except x as n: suite; the error is known behind the suite -/
theorem ps_try_keep (hs : X.stack = X.env :: X.outer) (hf : X.env.frame = some X.env.locals) (hex : X.ex = []) (hN : X.N.Nodup) (hi : X.N[i]? = some n) (hln : X.env.kindOf n = some .local) (hc : Names X x c) (tk : Takes X Wout)
    (hb : ∀ (W : WX) (pn : List (Addr × Obj)) (xe : Value → Shared → Prop), Takes (X.tr pn xe) W → PassesOwn (model X.prog X.w) X.A X.env xe → PSs (X.tr pn xe) body (tb W))
    (hsu : ∀ (a : Addr) (oe : Obj) (cls : Value) (d : Option Addr) (pn : List (Addr × Obj)), Zc cls d oe → (∃ vs, oe.data = .fields vs) → PSs (X.suite a ((a, oe) :: pn)) (b₀ :: suite) (ts a cls d)) :
    PS X (.Try body [.ExceptHandler (some (.Name x np)) (some n) (b₀ :: suite) pos'] [] [] pos) (fun D σ H => tb (wKeep X.K c i ts Wout D) D σ H) := by
  constructor
  intro pins s σ H D I start_
  refine wpAny_Try_except ?_
  refine wpAny_mono ((hb _ (X.pn ++ pins) (fun u s₁ => wpAny (model X.prog X.w) X.A (noteFrame u X.env) (fun _ s₂ => wpAny (model X.prog X.w) X.A (setFlight u none) (fun _ s₃ => wpAny (model X.prog X.w) X.A (handleBy u X.env [.ExceptHandler (some (.Name x np)) (some n) (b₀ :: suite) pos']) (SP X pins D) X.xe s₃) X.xe s₂) X.xe s₁)
    (fun _ _ xx => clause_meets hs hf hex hN hi hln hc tk hsu I.ok xx) PassesOwn.looking).run [] s σ H D (I.toTry _) start_) (fun flow s1 ends => ?_) (fun _ _ z => z)
  match flow, ends with
  | .next, ⟨_, _, T, q⟩ => exact wpAny_execs_nil ⟨_, _, T.ofTry I.ok, q⟩
  | .brk, ⟨_, _, T, q⟩ => exact ⟨_, _, T.ofTry I.ok, q⟩
  | .cont, ⟨_, _, T, q⟩ => exact ⟨_, _, T.ofTry I.ok, q⟩
  | .ret _, ⟨_, _, _, T, r, q⟩ => exact ⟨_, _, _, T.ofTry I.ok, r, q⟩
end

/-! ### what is asked of a known error -/
/-- isinstance(e, c): D the error's class -/
def rIsErr (K : PySem.W.Frag) : List V → Hp → VK → Prop := fun xs H Q => ∃ (a D : Addr) (dd : Addr) (fs : List (Str × V)) (c : V) (cv : Value) (b : Bool), xs = [.ref a, c] ∧ H a = some (ErrO (.ref D) (some dd) a) ∧ H dd = some (.xd fs) ∧ ExcC K D ∧
  (∀ u, RelV c u → u = cv) ∧ PySem.W.kitOne K (.ref D) cv = some b ∧ Q (.bl b) H
theorem excC_cls {K : PySem.W.Frag} {D : Addr} (C : ExcC K D) : (PySem.W.clsIn K D).isSome = true := by
  obtain ⟨cd, hc, _⟩ := PySem.W.any_some C.hd
  rw [hc] <;> rfl
theorem call_isErr {X : Cx} : CallR X (.builtin "isinstance") (rIsErr X.K) := by
  intro pins s σ H xs us Q I r h
  obtain ⟨a, D, dd, fs, c, cv, b, rfl, ha, hdd, C, hcv, e, q⟩ := h
  cases r with
  | cons rx rr =>
    cases rr with
    | cons rt rr =>
      cases rr
      cases rx
      have ec := hcv _ rt
      subst ec
      obtain ⟨oe, vs, hget, hz, hv⟩ := errO_at I.hok ha
      obtain ⟨mA, ⟨od, _, _, ho, _⟩, _⟩ := I.hok dd _ hdd
      have J : PySem.W.InstAt s.heap a oe D (some od) := by
        obtain ⟨oc, oda, odt, osl⟩ := oe
        obtain ⟨h1, h2⟩ := hz
        dsimp only at h1 h2 hv
        subst h1 h2 hv
        exact ⟨hget, rfl, rfl, ho⟩
      exact PySem.W.kia_one (PySem.W.kitx_exc (excC_cls C) C.hg C.hk C.hs C.ha C.hn C.ht C.hm) I.kIn J e (fun z => nomatch z) fun tk => ⟨.bl b, H, I.kept (t' := tk) fun _ _ z => z, rfl, q⟩
/-- e.f of a known error -/
def tErrF (K : PySem.W.Frag) (te : TE) (f : Str) : TE := fun σ H Q => te σ H fun x H1 => ∃ (a C dd : Addr) (fs : List (Str × V)) (v : V), x = .ref a ∧ H1 a = some (ErrO (.ref C) (some dd) a) ∧ H1 dd = some (.xd fs) ∧ XfC K C ∧ PySem.W.findIn K (.ref C) f = some none ∧ fs.lookup f = some v ∧ Q v H1
theorem pe_errf {X : Cx} {e : Expr} {te : TE} {pos : Pos} {n : Str} (he : PE X e te) (hb : attributeBase e n X.env (eval e X.env) = eval e X.env := by rfl) : PE X (.Attribute e n pos) (tErrF X.K te n) := by
  refine ⟨fun pins s σ H Q I h => ?_⟩
  refine attr_of hb (thn (he.run pins s σ H _ I h) fun u s1 hh => ?_)
  obtain ⟨x, H1, I1, rx, a, C, dd, fs, v, ex, ha, hdd, T, hno, l, q⟩ := hh
  subst ex
  obtain rfl : u = Value.ref a := rx
  obtain ⟨oe, vs, hget, hz, hv⟩ := errO_at I1.hok ha
  obtain ⟨mA, hns, hr⟩ := I1.hok dd _ hdd
  obtain ⟨od, ho, hl⟩ := lookIn_ns hns
  obtain ⟨u, hu, ru⟩ := RelO.some_of (v := v) (o := mA n) (by rw [← l]; exact hr n)
  have J : PySem.W.InstAt s1.heap a oe C (some od) := ⟨hget, hz.1, by unfold PySem.W.notCls; rw [hv] <;> rfl, by rw [hz.2]; exact ho⟩
  exact HandSPX.exc_get I1.kIn J T.ga T.gg T.exC (PySem.W.findObj_own T.hdC hno rfl (by rw [hl, hu])) (handed_of ru) ⟨v, H1, I1.tok _, ru, q⟩
end KG

set_option Elab.async false
set_option linter.all false
set_option maxRecDepth 100000
set_option maxHeartbeats 4000000
/-! KE1: an own error, its __init__ of two lines: super().__init__('..'), self.f = value. -/
namespace KG
open PySem PySem.Spec PySem.Calls PyProof.Rows L2
open PySem.W (ksFn ksEnv)

/-- what the written part says of such a class at C, its __init__ at fI; pv: the value's name, fld: the field -/
structure ErrC (prog : Program) (K : PySem.W.Frag) (C fI : Addr) (qual pv fld : Str) (params : Arguments) (body : List Stmt) (scope : Scope) : Prop where
  cls : OexC K C
  ini : PySem.W.findIn K (.ref C) "__init__" = some (some (.ref fI))
  fn : PySem.W.typeIn K (.ref fI) = some (.type "function")
  fun_ : ∃ (oc kV doc pm ct : Value) (an od : Option Addr) (cda cc : Addr) (osl : Array (Option Value)) (ccl cl : Value) (cdd cld : Option Addr) (vs : Array Value) (ccs csl : Array (Option Value)) (file : Str) (tf : Tok),
    K.lookup fI = some ⟨oc, od, .func (ksFn "__init__" qual params body scope .none kV doc pm an (.ref cda) ct cc), osl⟩ ∧ PySem.W.codeIn K (.ref cda) qual = true ∧
    K.lookup cda = some ⟨ccl, cdd, .fields vs, ccs⟩ ∧ vs[2]? = some (.str file tf) ∧ ((prog.main.file : Str) == file) = true ∧ K.lookup cc = some ⟨cl, cld, .cell (some (.ref C)), csl⟩
  self_ : PySem.W.mroIn K C (.ref C) = some true
  up : PySem.W.ks_superIn K C C "__init__" = some (some (.builtin "ValueError.__init__"))
  sub : PySem.W.subIn K (.ref C) (.type "ValueError") = some true
  opq : PySem.W.nsIn K cStatics "thirdparty.any" = some none
  nosup : PySem.W.nsIn K mainGlobals "super" = some none
  top : (prog.main.scope.names.lookup ("super" : Str)).isSome = false
  nofld : PySem.W.findIn K (.ref C) fld = some none

/-- the two lines -/
def errBody (msg pv fld : Str) (j : Nat) (p0 p1 p2 p3 p4 p5 p6 p7 p8 p9 : Pos) : List Stmt :=
  [.Expr (.Call (.Attribute (.Call (.Name "super" p0) [] [] p1) "__init__" p2) [.Constant (.str msg) j p3] [] p4) p5,
   .Assign [.Attribute (.Name "self" p6) fld p7] (.Name pv p8) p9]

/-- what the text of the two lines says -/
structure ErrT (qual pv fld msg : Str) (params : Arguments) (scope : Scope) (j : Nat) (p0 p1 p2 p3 p4 p5 p6 p7 p8 p9 : Pos) : Prop where
  bind : ∀ (kV doc pm : Value) (an : Option Addr) (cdv ct : Value) (cc : Addr) (x y : Value), bindArgs (ksFn "__init__" qual params (errBody msg pv fld j p0 p1 p2 p3 p4 p5 p6 p7 p8 p9) scope .none kV doc pm an cdv ct cc) ⟨[x, y], []⟩ = pure [(("self" : Str), x), (pv, y)]
  ev : ∃ pl : Env → Sem Bool, ∀ env : Env, eval (.Call (.Attribute (.Call (.Name "super" p0) [] [] p1) "__init__" p2) [.Constant (.str msg) j p3] [] p4) env = (do
      let ov ← attributeBase (.Call (.Name "super" p0) [] [] p1) "__init__" env (eval (.Call (.Name "super" p0) [] [] p1) env)
      standAt p2.atName
      let (f, first) ← holding [ov] (getMethod ov "__init__" (pl env))
      callWith p4 f first (backTo p4 (starEach [.Constant (.str msg) j p3] env)) [])
  par : (params.posonlyargs ++ params.args).head?.map (·.arg) = some "self"
  k1 : scope.names.lookup ("self" : Str) = some .local
  k2 : scope.names.lookup pv = some .local
  k3 : scope.names.lookup ("super" : Str) = some .globalImplicit
  k4 : scope.names.lookup ("__class__" : Str) = some .free
  npv : pv ≠ "self"
  npd : (pv == ("__debug__" : Str)) = false
  cell : ∀ x ∈ scope.names, x.2 ≠ .cell
  co : scope.isCoroutine = false
  gen : scope.isGenerator = false
  kind : scope.kind = .function

section
variable {prog : Program} {w : World} {A : Around} {R : Result → Shared → Prop} {K : PySem.W.Frag} {mg mb : Str → Option Value} {C fI : Addr} {qual pv fld msg : Str} {params : Arguments} {scope : Scope} {j : Nat} {p0 p1 p2 p3 p4 p5 p6 p7 p8 p9 : Pos}
theorem err_init {s : Shared} {e t0 : Addr} {u : Value} (T : ErrC prog K C fI qual pv fld params (errBody msg pv fld j p0 p1 p2 p3 p4 p5 p6 p7 p8 p9) scope)
    (kin : K.In s.heap) (nsm : s.heap.Ns mainGlobals mg) (nsb : s.heap.Ns builtinsNs mb) (mbb : ∀ x : Str, x ≠ "__name__" → mb x = bootBuiltins x) (lim : s.heap.NoLimit) (dep : A.depth < recursionLimit)
    (he : s.heap.get? e = some (PySem.HandSPX.excO C t0)) (nK : K.lookup e = none)
    (bind : ∀ (kV doc pm : Value) (an : Option Addr) (cdv ct : Value) (cc : Addr) (x y : Value), bindArgs (ksFn "__init__" qual params (errBody msg pv fld j p0 p1 p2 p3 p4 p5 p6 p7 p8 p9) scope .none kV doc pm an cdv ct cc) ⟨[x, y], []⟩ = pure [(("self" : Str), x), (pv, y)])
    (pl : Env → Sem Bool) (hev : ∀ env : Env, eval (.Call (.Attribute (.Call (.Name "super" p0) [] [] p1) "__init__" p2) [.Constant (.str msg) j p3] [] p4) env = (do
      let ov ← attributeBase (.Call (.Name "super" p0) [] [] p1) "__init__" env (eval (.Call (.Name "super" p0) [] [] p1) env)
      standAt p2.atName
      let (f, first) ← holding [ov] (getMethod ov "__init__" (pl env))
      callWith p4 f first (backTo p4 (starEach [.Constant (.str msg) j p3] env)) []))
    (hpar : (params.posonlyargs ++ params.args).head?.map (·.arg) = some "self")
    (k1 : scope.names.lookup ("self" : Str) = some .local) (k2 : scope.names.lookup pv = some .local) (k3 : scope.names.lookup ("super" : Str) = some .globalImplicit) (k4 : scope.names.lookup ("__class__" : Str) = some .free)
    (npv : pv ≠ "self") (hpd : (pv == ("__debug__" : Str)) = false) (hcell : ∀ x ∈ scope.names, x.2 ≠ .cell) (hco : scope.isCoroutine = false) (hgen : scope.isGenerator = false) (hk : scope.kind = .function)
    (hq : ∀ h' t' dx, (∀ b o, b ≠ e → s.heap.get? b = some o → h'.get? b = some o) → s.heap.objs.size ≤ dx → dx ≠ e →
      (∃ t1 : Addr, h'.get? e = some ({ cls := .ref C, dict := some dx, data := .fields #[.ref t1, .none, .none, .none, .bool false, .none] } : Obj)) → h'.Ns1 dx (fun y => if y = fld then some u else none) →
      R (.ok (.ret .none)) { s with heap := h', toks := t' }) :
    codeAny (model prog w) A (.call (.ref fI) ⟨[.ref e, u], []⟩) R s := by
  obtain ⟨oc, kV, doc, pm, ct, an, od, cda, cc, osl, ccl, cl, cdd, cld, vs, ccs, csl, file, tf, lkF, code, lkC, hvs, hfile, lkCell⟩ := T.fun_
  obtain ⟨nm, q, N, bs, bm, sn, sub, ab, col, dd, c0, c1, c2, c3, c5, hC, hbm⟩ := T.cls.cls
  have hcl : PySem.W.clsIn K C = some { name := nm, bases := bs, mro := .ref C :: bm, ns := N, qualname := q, hasDict := true, slotNames := sn, subclasses := sub, abstract := ab, collection := col, hasDel := false } := by
    unfold PySem.W.clsIn
    rw [hC] <;> rfl
  obtain ⟨ar, har, hself⟩ : ∃ ar, (params.posonlyargs ++ params.args).head? = some ar ∧ ar.arg = "self" := by
    cases z : (params.posonlyargs ++ params.args).head? with
    | none => rw [z] at hpar; cases hpar
    | some ar => rw [z] at hpar; exact ⟨ar, rfl, Option.some.inj hpar⟩
  have eC : e ≠ C := fun z => by
    have z1 := kin _ _ hC
    rw [z, z1] at he
    cases he
  refine ks_codeAny_call_defAt (fd := ksFn "__init__" qual params (errBody msg pv fld j p0 p1 p2 p3 p4 p5 p6 p7 p8 p9) scope .none kV doc pm an (.ref cda) ct cc) (body := errBody msg pv fld j p0 p1 p2 p3 p4 p5 p6 p7 p8 p9) (binds := [(("self" : Str), .ref e), (pv, u)])
    dep (kin _ _ lkF) rfl lim (PySem.W.codeRec_of kin code) rfl (.of_eq (bind ..)) hcell (fun y hy => ?_) (fun h1 ns1 kp1 => ?_) hco hgen hk
  · rcases List.mem_cons.mp hy with z | z
    · rw [z]; exact k1
    · rcases List.mem_cons.mp z with z | z
      · rw [z]; exact k2
      · cases z
  have kin1 : K.In h1 := kin.keeps kp1
  obtain ⟨hp, g, d, t, os⟩ := s
  have hint : interactive (callEnv (ksFn "__init__" qual params (errBody msg pv fld j p0 p1 p2 p3 p4 p5 p6 p7 p8 p9) scope .none kV doc pm an (.ref cda) ct cc) hp.objs.size fI) = false := by
    unfold interactive
    simp [callEnv, newEnv, hk]
  refine ks_wpAt_execs_cons (ks_wpAt_Expr_any (ks_wpAt_MethodCall (ks_wpAt_super_base k3 k4 (by decide) rfl (kin1 _ _ lkF) rfl har rfl (kin1 _ _ lkC) rfl hvs hfile T.top ?_) (hev _)) hint)
  refine PySem.W.ks_loadName_global hk k3 (loadGlobal_builtin (nsm.keeps kp1) (PySem.W.mg_none_of kin nsm T.nosup) (nsb.keeps kp1) ((mbb _ (by decide +kernel)).trans (by decide +kernel)) ⟨rfl, ?_⟩)
  refine wpAny_loadName_free hk k4 rfl ⟨_, kin1 _ _ lkCell, rfl⟩ ?_
  rw [hself]
  refine wpAny_loadName_local hk k1 ns1 (v := .ref e) ?_ ?_
  · show List.lookup ("self" : Str) ([(("self" : Str), Value.ref e), (pv, u)] : List (Str × Value)).reverse = _
    simp [List.lookup, beq_eq_false_iff_ne.mpr (Ne.symm npv)]
  have he1 : h1.get? e = some (PySem.HandSPX.excO C t0) := kp1 _ _ he
  have hD1 := kin1 _ _ hC
  refine ks_wpAny_isType_cls hD1 rfl ⟨rfl, ?_⟩
  refine ks_wpAny_call_super hD1 rfl he1 rfl (fun c z => by cases z) (PySem.W.looks_mroIn kin1 T.self_) (fun h2 eso kp2 => ?_)
  have kin2 : K.In h2 := kin1.keeps kp2
  have he2 := kp2 _ _ he1
  have inst2 : PySem.W.InstAt h2 e (PySem.HandSPX.excO C t0) C none := ⟨he2, rfl, rfl, trivial⟩
  have sup := T.up
  unfold PySem.W.ks_superIn at sup
  rw [hcl] at sup
  refine PySem.W.kxs_getMethod PySem.W.kxs_ValueError eso (PySem.W.looks_opaque kin2 T.opq) (l₀ := Value.ref C :: bm) (fun A Q E s k q => wpAny_bind ((PySem.W.looks_clsIn kin2 hcl) A _ E s k (wpAny_pure q))) rfl kin2 sup (inst2.type.andThen (PySem.W.looks_subIn kin2 T.sub)) eC (by decide) ?_
  have ku := Heap.get?_push_size h2 (o := PySem.W.kxs_mw "ValueError.__init__" e) rfl
  have kp3 : ∀ b o, h2.get? b = some o → (h2.push (PySem.W.kxs_mw "ValueError.__init__" e)).get? b = some o := fun b o z => Heap.get?_push_of_some _ z
  refine PySem.W.kxs_callWith (i := "ValueError.__init__") (x := e) rfl (evalArgs_plain (Calls.spliced_cons (Calls.Constant_str (k := j) (pos := p3) (Calls.spliced_nil ⟨ku, ?_⟩))))
  have he3 := kp3 _ _ he2
  have hC3 := kp3 _ _ (kp2 _ _ hD1)
  refine wpAny_call (codeAny_of_tree ?_)
  show wpAny _ (Around.in1 _) (callAny (.ref h2.objs.size) ⟨[.str msg _], []⟩) _ _ _
  simp only [callAny]
  refine wpAny_bind (wpAny_load ku ?_)
  simp only [PySem.W.kxs_mw, show (Value.type "method-wrapper" == Value.type "method" || Value.type "method-wrapper" == Value.type "builtin_function_or_method" || Value.type "method-wrapper" == Value.type "method-wrapper") = true by decide, if_true]
  refine PySem.W.KFB.if_so (by decide) ?_
  refine wpAny_bind (PySem.W.check_bound_init PySem.F.excBase_ValueError.toExcCallFacts hC3 he3 rfl ?_)
  refine wpAny_bind (wpAny_pure (wpAny_pure ?_))
  refine ⟨plainId_quiet PySem.F.excBase_ValueError.init.plain _, codeAny_builtin PySem.F.excBase_ValueError.initEntry ?_⟩
  refine PySem.W.exc_init_tree (cls := .ref C) (t0 := t0) (dv := none) (c2 := .none) (c3 := .none) (b4 := .bool false) he3 (by show 1 ≤ sizeLine; rw [sizeLine_eq]; omega) fun h4 kp4 he4 _ => ?_
  have neF : hp.objs.size ≠ e := Nat.ne_of_gt (Heap.lt_size he)
  have kin4 : K.In h4 := fun b o z => kp4 b o (fun y => by
    rw [y, nK] at z
    cases z) (kp3 _ _ (kin2 b o z))
  have ns4 : h4.Ns hp.objs.size (fun y => ([(("self" : Str), Value.ref e), (pv, u)] : List (Str × Value)).reverse.lookup y) := by
    obtain ⟨o, es, ep, ho, r⟩ := ns1
    exact ⟨o, es, ep, kp4 _ _ neF (kp3 _ _ (kp2 _ _ ho)), r⟩
  refine ks_wpAt_execs_cons (ks_wpAt_Assign_Attr ?_)
  refine wpAt_of_wpAny (wpAny_Name ?_ hpd)
  refine wpAny_loadName_local hk k2 ns4 (v := u) ?_ ?_
  · show List.lookup pv ([(("self" : Str), Value.ref e), (pv, u)] : List (Str × Value)).reverse = _
    simp [List.lookup]
  refine wpAny_Name ?_ (by decide)
  refine wpAny_loadName_local hk k1 ns4 (v := .ref e) ?_ ?_
  · show List.lookup ("self" : Str) ([(("self" : Str), Value.ref e), (pv, u)] : List (Str × Value)).reverse = _
    simp [List.lookup, beq_eq_false_iff_ne.mpr (Ne.symm npv)]
  refine PySem.W.set_plain kin4 (ox := _) (od := none) ⟨he4, rfl, rfl, trivial⟩ T.cls.sa ?_
  refine PySem.HandSPX.exc_osa kin4 he4 hcl (show PySem.HandSPX.refsVE (.ref C :: bm) = true from hbm) rfl T.nofld (fun h5 tk5 dx kp5 dn dne hx hn => ?_)
  show _root_.PySem.wpAt _ _ _ (execs [] _) _ _ _
  refine wpAt_of_wpAny (wpAny_execs_nil (hq h5 tk5 dx (fun b o ne z => kp5 b o ne (kp4 b o ne (kp3 _ _ (kp2 _ _ (kp1 _ _ z))))) ?_ dne ⟨_, hx⟩ hn))
  obtain ⟨oL, _, _, hoL, _⟩ := ns4
  exact Nat.le_trans (Nat.le_of_lt (Heap.lt_size hoL)) dn
end

section
variable {X : Cx} {k : Nat} {C fI : Addr} {x qual pv fld msg : Str} {params : Arguments} {scope : Scope} {j : Nat} {p0 p1 p2 p3 p4 p5 p6 p7 p8 p9 p pos : Pos} {e : Expr} {es : List Expr} {ta : TA}
/-- the making of an own error: its reading -/
def tErr (C : Addr) (fld : Str) (ta : TA) : L2.St → Hp → XK → Prop := fun σ H Q => ta σ H fun vs H1 => ∃ v, vs = [v] ∧ ∀ (dx : Addr) (H2 : Hp), H1 dx = none → H2 dx = some (.xd [(fld, v)]) → (∀ b, b ≠ dx → H2 b = H1 b) → Q (.ref C) (some dx) H2
theorem pmk_err (T : ErrC X.prog X.K C fI qual pv fld params (errBody msg pv fld j p0 p1 p2 p3 p4 p5 p6 p7 p8 p9) scope) (TT : ErrT qual pv fld msg params scope j p0 p1 p2 p3 p4 p5 p6 p7 p8 p9)
    (hr : Room (k + 1) X.A) (hg : Gl X x) (hm : X.mg x = some (.ref C)) (ha : PA X (e :: es) ta)
    (hdb : (x == ("__debug__" : Str)) = false := by decide) (hs : starEach (e :: es) X.env = (false, eval e X.env) :: starEach es X.env := by rfl) (hpl : (backTo pos (starEach es X.env)).any (·.1) = false := by rfl) :
    PMk X (.Call (.Name x p) (e :: es) [] pos) (tErr C fld ta) := by
  intro pins s σ H Q I h
  obtain ⟨nm, q, N, bs, bm, sn, sub, ab, col, dd, c0, c1, c2, c3, c5, hC, hbm⟩ := T.cls.cls
  refine wpAny_Call_Name_kw (ld_glob I hg hm ?_ hdb)
  refine PySem.W.callWith_K (h₀ := X.base) I.ok.mod.kin T.cls.kC (thn (ha.run pos pins s σ H _ I h) fun us s1 ⟨vs, H1, I1, r1, q1⟩ => ⟨I1.kIn, ?_⟩) hs hpl
  obtain ⟨v, ev, q1⟩ := q1
  subst ev
  obtain ⟨u, eu, ru⟩ := vals1 r1
  subst eu
  show wpAny _ _ (call (.ref C) [u]) _ _ _
  have mod := I1.mod
  obtain ⟨mb, nsb0, mbb⟩ := mod.blt
  have nsm := mod.glob.keeps I1.bk
  have nsb := nsb0.keeps I1.bk
  have lim := I1.nolimit
  have kin := I1.kIn
  have bare := I1.bare
  have fresh : ∀ {b : Addr}, s1.heap.objs.size ≤ b → H1 b = none := fun hb => I1.hok.fresh hb
  obtain ⟨hp, g, dr, tk, os⟩ := s1
  have kk : ∀ b o, hp.get? b = some o → ((hp.push (PySem.W.kdv_tup [u])).push (PySem.HandSPX.excO C hp.objs.size)).get? b = some o := fun b o z => Heap.get?_push_of_some _ (Heap.get?_push_of_some _ z)
  have hget : ((hp.push (PySem.W.kdv_tup [u])).push (PySem.HandSPX.excO C hp.objs.size)).get? (hp.objs.size + 1) = some (PySem.HandSPX.excO C hp.objs.size) := by heap_get
  have nK : X.K.lookup (hp.objs.size + 1) = none := by
    cases z : X.K.lookup (hp.objs.size + 1) with
    | none => rfl
    | some o => exact absurd (Heap.lt_size (kin _ _ z)) (Nat.not_lt.mpr (Nat.le_succ _))
  refine wpAny_call (PySem.HandSPX.call_own F.excBase_ValueError (fun Y => PySem.HandSPX.refsVE_contains Y bm hbm) (kin _ _ hC) (PySem.W.looks_findIn kin T.ini) (fun self => PySem.W.bind_fn kin self T.fn) (by show 1 ≤ sizeLine; rw [sizeLine_eq]; omega)
    (err_init (mg := X.mg) (mb := mb) (t0 := hp.objs.size) (e := hp.objs.size + 1) (u := u) T (kin.keeps kk) (nsm.keeps kk) (nsb.keeps kk) mbb (lim.keeps kk) (hr.make C [u] []).depth hget nK TT.bind TT.ev.choose TT.ev.choose_spec TT.par TT.k1 TT.k2 TT.k3 TT.k4 TT.npv TT.npd TT.cell TT.co TT.gen TT.kind
      fun h' t' dx kp dn dne hx hn => ⟨rfl, ?_⟩))
  obtain ⟨t1, hx⟩ := hx
  have dn' : hp.objs.size ≤ dx := Nat.le_trans (by simp only [Heap.size_push]; omega) dn
  have ne_old : ∀ {b : Addr} {o : Obj}, hp.get? b = some o → b ≠ hp.objs.size + 1 := fun z => Nat.ne_of_lt (Nat.lt_succ_of_lt (Heap.lt_size z))
  obtain ⟨G, g1, g2⟩ := restrict h' fun b => decide (b ≠ hp.objs.size + 1)
  have gk : ∀ b, b ≠ hp.objs.size + 1 → G.get? b = h'.get? b := fun b hb => g1 b (decide_eq_true hb)
  have ge : G.get? (hp.objs.size + 1) = none := g2 _ (by simp)
  have J : Inv X pins σ (upd H1 dx (.xd [(fld, v)])) ⟨G, g, dr, t', os⟩ := I1.laid (h' := G) (a := dx) (o := .xd [(fld, v)]) (t' := t') (fun b o z => (gk b (ne_old z)).trans (kp b o (ne_old z) (kk b o z))) dn'
    ⟨_, hn.at fun o y => (gk dx dne).trans y, relO_put (fs := []) ru fun g => True.intro⟩
  have nd : H1 dx = none := fresh dn'
  have na : upd H1 dx (.xd [(fld, v)]) (hp.objs.size + 1) = none := by
    rw [upd_ne (Ne.symm dne)]
    exact fresh (Nat.le_succ _)
  refine ⟨hp.objs.size + 1, _, _, ⟨G, g, dr, t', os⟩, _, .ref C, some dx, rfl, J, fun b o z => ?_, ge, hx, ⟨rfl, rfl⟩, rfl, rfl, na, rfl, bare, raises_own T.cls.exC T.cls.tyC, q1 dx _ nd upd_same fun b nb => upd_ne nb⟩
  by_cases hb : b = hp.objs.size + 1
  · rw [hb, ge] at z
    cases z
  · exact (gk b hb).symm.trans z
end
end KG

set_option Elab.async false
set_option linter.all false
set_option maxRecDepth 100000
set_option maxHeartbeats 1000000
/-! KH: a lambda without parameters handed to a def of the text, where nothing is shown; the end of a law whose defs lay code objects. -/
namespace KG
open PySem PySem.Spec PySem.Calls PyProof.Rows L2 LamX

/-- the lambda: its names, no parameters -/
structure LamT (sc scope : Scope) (params : Arguments) (body : Expr) : Prop where
  names : LamS sc scope
  bind : ∀ (q : Str) (cl : List (Str × Addr)) (pm cv ctv : Value), bindArgs (PySem.W.kla_fn "<lambda>" q params body scope cl pm cv ctv) ⟨[], []⟩ = pure []

/-- the frame of the def g that got it, entered from X at s -/
abbrev inDef (X : Cx) (N : List Str) (x : Str) (st : Stmt) (g : Addr) (cd : Value) (s : Shared) (H : Hp) : Cx := cxOf C8.CX0 X.prog X.w X.K X.mg X.base N x (defScope st) g cd X.A X.stack s H C8.E0
section
variable {X : Cx} {pins : List (Addr × Obj)} {σ : L2.St} {H HZ : Hp} {s : Shared} {k i : Nat} {N : List Str} {x a : Str} {st : Stmt} {g f c' : Addr} {cd pm ctv : Value} {params : Arguments} {body : Expr} {scope : Scope} {W : WX} {E : XK} {tb : TE} {p1 p2 : Pos}
/-- the lambda runs: from a frame over X's, at s1 -/
theorem lam_run {s1 : Shared} {env : Env} {A : Around} {Q : VK} (I : Inv X pins σ H s) (L : LamT X.env.scope scope params body) (e0 : Env0 X.prog X.w X.K X.mg X.base A (env :: X.stack) s1 HZ) (un : Un (frs X.stack) [] H HZ s.heap s1.heap) (lim : s1.heap.NoLimit)
    (rm : Room (k + 1) A) (gd : A.guards = some []) (fo : s1.heap.get? f = some (PySem.W.kla_obj "<lambda>" (X.env.qual ++ "<lambda>") params body scope (cloFrom X.env.cells scope.names []) pm c' ctv)) (co : ∃ (oc : Obj) (vs : Array Value) (t : Tok), s1.heap.get? c' = some oc ∧ oc.data = .fields vs ∧ vs[1]? = some (.str (X.env.qual ++ "<lambda>") t))
    (hbody : Room k (A.deeper (lamEnv X scope s1.heap.objs.size f c')) → (A.deeper (lamEnv X scope s1.heap.objs.size f c')).guards = some [] → PE (lamCx X A (env :: X.stack) s1 HZ E scope f c') body tb) (q : tb σ HZ Q) :
    codeAny (model X.prog X.w) A (.call (.ref f) ⟨[], []⟩) (CR (L2.CX X.prog X.w) (env :: X.stack) X.prog X.w HZ s1 Q E) s1 := by
  obtain ⟨oc, vs, t, g1, g2, g3⟩ := co
  refine PySem.W.kla_callFunE rm.depth fo rfl L.names.co L.names.gen rfl ⟨c', oc, vs, t, rfl, g1, g2, g3⟩ ?_
  rw [L.bind]
  refine wpAny_pure (wpAny_newFunctionEnv (fun y hy => (L.names.own y hy).2) (fun y hy => absurd hy List.not_mem_nil) (fun h2 ns2 sb2 => ⟨lim.fresh _ sb2, PySem.W.kla_codeExpr ?_⟩) L.names.kind)
  have kp : ∀ b o, s1.heap.get? b = some o → h2.get? b = some o := fun b o z => sb2.extBut b o (Nat.ne_of_lt (Heap.lt_size z)) (Heap.get?_push_of_some _ z)
  have J := lam_start2 (tk := s1.toks + ([] : List (Str × Value)).length) (E := E) (c' := c') (f := f) I L.names e0 rm.hd un ns2 kp
  exact wpAny_mono ((hbody (rm.deeper _) gd).run [] _ _ HZ Q J q) (fun v s' ⟨y, H', J', r, z⟩ => ⟨y, H', J'.os, J'.bare, J'.base, J'.hok, r, z⟩) fun _ _ z => z
/-- what stands at the name a is the lambda at f: a() -/
def Act (X : Cx) (N : List Str) (x : Str) (st : Stmt) (g : Addr) (cd : Value) (s : Shared) (H : Hp) (a : Str) (f c' : Addr) (tl : XK → Hp → VK → Prop) : Prop :=
  ∀ (W : WX) (pn : List (Addr × Obj)) (xe : Value → Shared → Prop) (p1 p2 : Pos), Takes ((inDef X N x st g cd s H).tr pn xe) W →
    PE ((inDef X N x st g cd s H).tr pn xe) (.Call (.Name a p1) [] [] p2) (fun σZ HZ Q => σZ[0]? = some (some (.ref f)) ∧ HZ c' = some (CodeO c' (X.env.qual ++ "<lambda>")) ∧ ∃ E : XK, (∀ cls d H', E cls d H' → W cls d σZ H') ∧ tl E HZ Q)
theorem act_of {t : XK → TE} (I : Inv X pins σ H s) (L : LamT X.env.scope scope params body) (fo : s.heap.get? f = some (PySem.W.kla_obj "<lambda>" (X.env.qual ++ "<lambda>") params body scope (cloFrom X.env.cells scope.names []) pm c' ctv)) (fn : H f = none) (ff : f ∉ frs X.stack)
    (rm : Room (k + 2) X.A) (gd : X.A.guards = some [])
    (hbody : ∀ (A : Around) (outer : List Env) (s : Shared) (H : Hp) (E : XK), Room k (A.deeper (lamEnv X scope s.heap.objs.size f c')) → (A.deeper (lamEnv X scope s.heap.objs.size f c')).guards = some [] → PE (lamCx X A outer s H E scope f c') body (t E))
    (hN : N[0]? = some a) (hv : Vis (defScope st) a) (hd : (a == ("__debug__" : Str)) = false) (hcd : (a == ("__classdict__" : Str)) = false) : Act X N x st g cd s H a f c' (fun E HZ Q => t E σ HZ Q) := by
  intro W pn xe p1 p2 tk
  refine ⟨fun pinsZ sZ σZ HZ Q IZ ⟨at0, hco, E, hW, hq⟩ => ?_⟩
  refine wpAny_Call_Name_kw (thn ((pe_var (pos := p1) (i := 0) hN hv hd hcd).run pinsZ sZ σZ HZ (fun v H1 => v = .ref f ∧ H1 = HZ) IZ ⟨.ref f, at0, rfl, rfl⟩) fun u s1 ⟨v, H1, I1, r1, ev, eH⟩ => ?_)
  subst ev
  subst eH
  obtain rfl : u = Value.ref f := r1
  have fo1 := I1.base.keep f _ fo fn ff (fun z => nomatch (show f ∈ ([] : List Addr) from z))
  have co1 := (I1.hok c' _ hco).1
  have rc : codeAny (model X.prog X.w) (X.A.deeper (envOfC x (defScope st) s.heap.objs.size g cd)) (.call (.ref f) ⟨[], []⟩) (CR (L2.CX X.prog X.w) (envOfC x (defScope st) s.heap.objs.size g cd :: X.stack) X.prog X.w H1 s1 Q E) s1 :=
    lam_run (X := X) (k := k) (Q := Q) (E := E) (tb := t E) (params := params) (body := body) (scope := scope) (pm := pm) (ctv := ctv) (c' := c') (f := f) I L I1.env0 I1.base I1.nolimit (rm.deeper _) gd fo1 co1 (fun r2 g2 => hbody _ _ _ _ _ r2 g2) hq
  refine PySem.W.callWith_F0 ⟨_, _, _, _, fo1⟩ (wpAny_call (codeAny_mono rc fun out s' ho => ?_))
  cases out with
  | error e => exact tk e s' (XE.of_call I1 (fun cls d H' h => hW cls d H' h) ho)
  | ok fl =>
    cases fl with
    | ret u => exact I1.after ho
    | next => exact False.elim ho
    | brk => exact False.elim ho
    | cont => exact False.elim ho
/-- the def that gets it: what it makes of the lambda's reading -/
def Gives (X : Cx) (x : Str) (st : Stmt) (a : Str) (TT : (XK → Hp → VK → Prop) → Hp → VK → Prop) : Prop :=
  ∃ N : List Str, FnScope N [a] (defScope st) ∧ N[0]? = some a ∧ Vis (defScope st) a ∧ ∀ (g : Addr) (cd : Value) (f c' : Addr) (s : Shared) (H : Hp) (Q : VK) (tl : XK → Hp → VK → Prop), Act X N x st g cd s H a f c' tl → H c' = some (CodeO c' (X.env.qual ++ "<lambda>")) → TT tl H Q →
    ∃ t, PSs (inDef X N x st g cd s H).nox (defBody st) t ∧ t { nx := fun _ H' => Q .non H', rt := Q } (L2.start N [.ref f]) H
/-- x(lambda: body) -/
theorem pe_lam {T : List (Addr × Str)} {TT : (XK → Hp → VK → Prop) → Hp → VK → Prop} {t : XK → TE} {c P : Addr} {p lpos pos : Pos} (D : DefAt X.K X.mg x st [a]) (G : Gives X x st a TT) (hg : Gl X x) (TB : TabB X.base X.mg c P) (hcode : X.env.code = .ref c)
    (hmT : (P, X.env.qual ++ "<lambda>") ∈ T) (hu : ∀ p ∈ T, p.1 = P → p.2 = X.env.qual ++ "<lambda>") (rm : Room (k + 2) X.A) (gd : X.A.guards = some []) (L : LamT X.env.scope scope params body) (hdef : defaultsOf params X.env = ([], []))
    (hbody : ∀ (A : Around) (outer : List Env) (s : Shared) (H : Hp) (E : XK) (f c' : Addr), Room k (A.deeper (lamEnv X scope s.heap.objs.size f c')) → (A.deeper (lamEnv X scope s.heap.objs.size f c')).guards = some [] → PE (lamCx X A outer s H E scope f c') body (t E))
    (hdb : (x == ("__debug__" : Str)) = false := by decide) (hd : (a == ("__debug__" : Str)) = false := by decide) (hcd : (a == ("__classdict__" : Str)) = false := by decide) : PE X (.Call (.Name x p) [.Lambda params body scope lpos] [] pos) (tLam T TT t) := by
  obtain ⟨g, fd, hm, F, b⟩ := D.ex
  obtain ⟨oc, od, kV, doc, pm, an, cdv, ct, osl, rfl, lk, hcg⟩ := F.ex
  obtain ⟨N, sc, hN, hv, G⟩ := G
  refine ⟨fun pins s σ H Q I ⟨hT, h⟩ => wpAny_Call_Name_kw (ld_glob I hg hm (PySem.W.callWith_K (h₀ := X.base) I.ok.mod.kin F.kp ?_ (by rfl) (by rfl)) hdb)⟩
  show wpAny _ _ (spliced ((false, eval (.Lambda params body scope lpos) X.env) :: backTo pos (starEach [] X.env))) _ _ s
  refine spliced_cons (lam_make2 I TB hcode hmT hu hT hdef (L.names.has I.ok) fun f c' pm' ctv H1 s' I1 eN T1 fo fn ff hco => spliced_nil ⟨I1.kIn, ?_⟩)
  refine wpAny_call (codeAny_mono (run_ofS (k := k + 1) (N := N) (ps := [a]) (us := [.ref f]) (vs := [.ref f]) (E := C8.E0) (CX := C8.CX0) (Q := Q) (H := H1) (outer := X.stack) (args := ⟨[.ref f], []⟩) lk hcg sc rm I1.env0 (b s' [.ref f] I1.kIn rfl) (.cons rfl .nil) rfl fun rm2 => ?_) fun out s2 ho => ?_)
  · obtain ⟨tt, h1, h2⟩ := G g cdv f c' s' H1 Q (fun E HZ Q => t E σ HZ Q) (act_of (k := k) I1 L fo fn ff rm gd (fun A outer s H E r2 g2 => hbody A outer s H E f c' r2 g2) hN hv hd hcd) hco (h H1 eN T1)
    exact ⟨tt, h1.nox, h2⟩
  · cases out with
    | error e => exact (show False from ho).elim
    | ok fl =>
      cases fl with
      | ret u => exact I1.after ho
      | next => exact False.elim ho
      | brk => exact False.elim ho
      | cont => exact False.elim ho
end
end KG

set_option Elab.async false
set_option linter.all false
set_option maxRecDepth 100000
set_option maxHeartbeats 1000000
/-! KT: the end of a law over promises where nothing is shown, the tables of code objects of its defs known. -/
namespace KG
open PySem PySem.Spec PySem.Calls PyProof.Rows L2 LamX

/-- the abstract heap at the start: the tables, the script -/
def H0 (K : PySem.W.Frag) (T : List Addr) (a : Addr) (vs : List Value) (ns : List Int) : Hp := fun b =>
  if b ∈ T then some (.tbl #[]) else if b = a ∧ K.lookup a = none then some (.frz { cls := .type "list", data := .seq vs.toArray } (.lst (ns.map V.int))) else none
section
variable {K : PySem.W.Frag} {T : List Addr} {a : Addr} {vs : List Value} {ns : List Int}
theorem H0_tab {b : Addr} (h : b ∈ T) : H0 K T a vs ns b = some (.tbl #[]) := if_pos h
theorem H0_a (h : a ∉ T) (hk : K.lookup a = none) : H0 K T a vs ns a = some (.frz { cls := .type "list", data := .seq vs.toArray } (.lst (ns.map V.int))) := (if_neg h).trans (if_pos ⟨rfl, hk⟩)
theorem H0_some {b : Addr} {u : HO} (h : H0 K T a vs ns b = some u) : (b ∈ T ∧ u = .tbl #[]) ∨ (b ∉ T ∧ b = a ∧ K.lookup a = none ∧ u = .frz { cls := .type "list", data := .seq vs.toArray } (.lst (ns.map V.int))) := by
  by_cases h1 : b ∈ T
  · rw [H0_tab h1] at h
    exact .inl ⟨h1, (Option.some.inj h).symm⟩
  · by_cases h2 : b = a ∧ K.lookup a = none
    · have e := ((if_neg h1).trans (if_pos h2)).symm.trans h
      exact .inr ⟨h1, h2.1, h2.2, (Option.some.inj e).symm⟩
    · have e := ((if_neg h1).trans (if_neg h2)).symm.trans h
      cases e
end

theorem law_gdT {P : Program} {w : World} {K : PySem.W.Frag} {mg mb : Str → Option Value} {CX : CXT} {k : Nat} {fa a : Addr} {cs : List (Addr × Addr)} {fd : FuncData} {x : Str} {sp : Sp} {s1 : Shared} {vs : List Value} {ns : List Int}
    (kin : K.In s1.heap) (nsm : s1.heap.Ns mainGlobals mg) (nsb : s1.heap.Ns builtinsNs mb) (mbb : ∀ x : Str, x ≠ "__name__" → mb x = bootBuiltins x) (lim : s1.heap.NoLimit) (nog : s1.gens = #[])
    (tab : ∀ p ∈ cs, s1.heap.get? p.2 = some { cls := .none, data := .fields #[] }) (notK : ∀ p ∈ cs, K.lookup p.2 = none) (code : ∀ p ∈ cs, PySem.W.CodeHd s1.heap p.1 p.2)
    (bmain : ∃ (bm : Addr) (ob : Obj), mg "__builtins__" = some (.ref bm) ∧ bm ≠ builtinsNs ∧ s1.heap.get? bm = some ob ∧ ob.cls = .type "module" ∧ ob.dict = some builtinsNs ∧ ob.data = .plain)
    (atA : s1.heap.get? a = some { cls := .type "list", data := .seq vs.toArray }) (isn : IntsAre vs ns) (small : ns.length ≤ sizeLine) (rm : Room k callerA)
    (F : ∀ base : Heap, K.In base → base.Ns mainGlobals mg → (∀ p ∈ cs, TabB base mg p.1 p.2) → Gd P w K mg base CX k fa fd [x] sp) (bt : ∀ (s : Shared) (u : Value), BindsTo s fd ⟨[u], []⟩ [(x, u)])
    (start_ : ∀ H : Hp, (∀ p ∈ cs, H p.2 = some (.tbl #[])) → SqL K H a (ns.map V.int) → sp [.ref a] H (fun v _ => v = .bl true) fun _ _ _ => False)
    (quiet : ∀ H e s', CX [] H s1 (fun _ _ _ => False) e s' → False) :
    codeAny (model P w) callerA (.call (.ref fa) ⟨[.ref a], []⟩) (fun r s' => r = .ok (.ret (.bool true)) ∧ OldK s1.heap s'.heap ∧ s'.os = s1.os ∧ AllBare s'.gens) s1 := by
  have rv := vals_ints isn
  have inT : ∀ p ∈ cs, p.2 ∈ cs.map (·.2) := fun p hp => List.mem_map_of_mem hp
  have ofT : ∀ b ∈ cs.map (·.2), ∃ p ∈ cs, p.2 = b := fun b hb => List.mem_map.mp hb
  have emp : ∀ b ∈ cs.map (·.2), s1.heap.get? b = some { cls := .none, data := .fields #[] } := fun b hb => by
    obtain ⟨p, hp, e⟩ := ofT b hb
    exact e ▸ tab p hp
  have aT : a ∉ cs.map (·.2) := fun z => by
    have y := emp a z
    rw [atA] at y
    exact nomatch congrArg Obj.data (Option.some.inj y)
  -- what is no table and no list is not tracked
  have plain : ∀ {b : Addr} {o : Obj}, s1.heap.get? b = some o → o.data ≠ .fields #[] → (∀ its n, o.data ≠ .seq its n) → H0 K (cs.map (·.2)) a vs ns b = none := fun {b o} e n1 n2 => by
    cases z : H0 K (cs.map (·.2)) a vs ns b with
    | none => rfl
    | some u =>
      rcases H0_some z with ⟨y, _⟩ | ⟨_, y, _⟩
      · rw [emp b y] at e
        cases e
        exact (n1 rfl).elim
      · rw [y, atA] at e
        cases e
        exact (n2 _ _ rfl).elim
  have ofK : ∀ {b : Addr} {o : Obj}, K.lookup b = some o → H0 K (cs.map (·.2)) a vs ns b = none := fun {b o} e => by
    cases z : H0 K (cs.map (·.2)) a vs ns b with
    | none => rfl
    | some u =>
      rcases H0_some z with ⟨y, _⟩ | ⟨_, y, n, _⟩
      · obtain ⟨p, hp, ep⟩ := ofT b y
        rw [← ep, notK p hp] at e
        cases e
      · rw [y, n] at e
        cases e
  have hok : HOk P w (H0 K (cs.map (·.2)) a vs ns) s1.heap := fun b u z => by
    rcases H0_some z with ⟨y, rfl⟩ | ⟨_, rfl, _, rfl⟩
    · exact emp b y
    · exact ⟨atA, by rw [List.length_map]; exact small, vs, _, rv, atA⟩
  have sq : SqL K (H0 K (cs.map (·.2)) a vs ns) a (ns.map V.int) := by
    cases hk : K.lookup a with
    | some o =>
      have e := kin a o hk
      rw [atA] at e
      cases e
      exact .inr ⟨_, vs.toArray, _, hk, rfl, rfl, rfl, by rw [List.size_toArray, isn.length]; exact small, by simpa using rv⟩
    | none => exact .inl (.inr ⟨_, H0_a aT hk⟩)
  have keepN : ∀ {b : Addr} {m : Str → Option Value}, s1.heap.Ns b m → (hidT s1.heap (H0 K (cs.map (·.2)) a vs ns)).Ns b m := fun {b m} ⟨o, es, ep, e, d, r⟩ =>
    ⟨o, es, ep, hidT_get e (plain e (by rw [d]; exact nofun) (by rw [d]; exact nofun)), d, r⟩
  have kinH : K.In (hidT s1.heap (H0 K (cs.map (·.2)) a vs ns)) := fun b o e => hidT_get (kin b o e) (ofK e)
  have mod : Mod K mg (hidT s1.heap (H0 K (cs.map (·.2)) a vs ns)) := ⟨kinH, keepN nsm, ⟨mb, keepN nsb, mbb⟩, lim.elim fun mc h => ⟨mc, keepN h.1, h.2⟩⟩
  have tb : ∀ p ∈ cs, TabB (hidT s1.heap (H0 K (cs.map (·.2)) a vs ns)) mg p.1 p.2 := fun p hp => by
    obtain ⟨o, us, file, tf, flags, tg, inF, text, tt, e1, r1, r2, r3, rr⟩ := code p hp
    obtain ⟨bm, ob, b1, b2, b3, b4, b5, b6⟩ := bmain
    have other : ∀ {q : Addr}, q ≠ bm → True := fun _ => trivial
    refine ⟨⟨o, us, file, tf, flags, tg, inF, text, tt, hidT_get e1 (plain e1 (fun z => ?_) (by rw [r2]; exact nofun)), r1, r2, r3, rr⟩, ⟨bm, ob, b1, b2, fun z => ?_, fun z => ?_, hidT_get b3 (plain b3 (by rw [b6]; exact nofun) (by rw [b6]; exact nofun)), b4, b5, b6⟩, fun z => ?_⟩
    · rw [r2] at z
      cases z
      simp at r3
    · obtain ⟨oM, _, _, eM, dM, _⟩ := nsm
      rw [z, eM] at b3
      cases b3
      rw [b6] at dM
      cases dM
    · rw [z, tab p hp] at b3
      cases b3
      cases b6
    · obtain ⟨oM, _, _, eM, dM, _⟩ := nsm
      rw [z, tab p hp] at eM
      cases eM
      cases dM
  have e0 : Env0 P w K mg (hidT s1.heap (H0 K (cs.map (·.2)) a vs ns)) callerA [] s1 (H0 K (cs.map (·.2)) a vs ns) := ⟨rfl, mod, fun b o e => of_hidT e, Nat.le_of_eq (hidT_size _ _), trivial, fun b hb => absurd (show b ∈ ([] : List Addr) from hb) List.not_mem_nil, hok, .of_eq nog⟩
  refine codeAny_mono ((F _ kinH (keepN nsm) tb).go callerA [] s1 _ ⟨[.ref a], []⟩ [.ref a] [.ref a] _ _ rm rfl e0 (bt s1 (.ref a)) (.cons rfl .nil) (start_ _ (fun p hp => H0_tab (inT p hp)) sq)) fun r s' h => ?_
  match r, h with
  | .error e, h => exact (quiet _ e s' h).elim
  | .ok (.ret u), h =>
    obtain ⟨v, H', os, bare, un, hok', r', q⟩ := h
    have q' : v = .bl true := q
    subst q'
    obtain rfl : u = Value.bool true := r'
    have same : ∀ b o, b ∉ cs.map (·.2) → s1.heap.get? b = some o → s'.heap.get? b = some o := fun b o nb e => by
      cases z : H0 K (cs.map (·.2)) a vs ns b with
      | none => exact un.keep b o e z (by intro y; cases y) (by simp)
      | some t =>
        rcases H0_some z with ⟨y, _⟩ | ⟨_, _, _, rfl⟩
        · exact (nb y).elim
        · obtain ⟨g1, _⟩ := hok b _ z
          obtain ⟨g2, _⟩ := hok' b _ (un.frzs b _ _ z)
          rw [e] at g1
          cases g1
          exact g2
    have grown : ∀ p ∈ cs, ∃ more : Array Value, s'.heap.get? p.2 = some { cls := .none, data := .fields more } := fun p hp => by
      obtain ⟨more, z⟩ := un.tbls p.2 #[] (H0_tab (inT p hp))
      exact ⟨_, hok' p.2 _ z⟩
    refine ⟨rfl, ⟨fun b o e => ?_, fun b o e => ?_⟩, os, bare⟩
    · by_cases hb : b ∈ cs.map (·.2)
      · obtain ⟨p, hp, ep⟩ := ofT b hb
        obtain ⟨more, hm⟩ := grown p hp
        subst ep
        rw [tab p hp] at e
        cases e
        exact .inr (.inl ⟨((code p hp).tab (tab p hp)).isCodeTable, rfl, #[], more, rfl, by rw [Array.empty_append]; exact hm⟩)
      · exact .inl (same b o hb e)
    · by_cases hb : b ∈ cs.map (·.2)
      · obtain ⟨p, hp, ep⟩ := ofT b hb
        obtain ⟨more, hm⟩ := grown p hp
        exact ⟨_, ep ▸ hm⟩
      · exact ⟨o, same b o hb e⟩

/-- what the start tells of the tables of the top's defs -/
abbrev Tabs0 (q : Program) (mg : Str → Option Value) (h : Heap) : Prop :=
  ∀ d ∈ recsOf q, ∃ (a : Addr) (o : Obj) (fd : FuncData) (c P : Addr), mg d.name = some (.ref a) ∧ h.get? a = some o ∧ o.data = .func fd ∧ fd.code = .ref c ∧ h.IsCode c P #[] ∧ h.TableAt c P #[]
/-- .. of one def that the written part knows: its code object c, the table at P -/
theorem tab0 {q : Program} {K : PySem.W.Frag} {mg : Str → Option Value} {h : Heap} {x : Str} {f c P : Addr} {oc : Value} {od : Option Addr} {fd : FuncData} {sl : Array (Option Value)} (X : K.In h) (t : Tabs0 q mg h) (hr : ((recsOf q).any fun d => d.name == x) = true) (hm : mg x = some (.ref f))
    (lk : K.lookup f = some ⟨oc, od, .func fd, sl⟩) (hc : fd.code = .ref c) (hP : PySem.W.codeHdIn K c P = true) : h.get? P = some { cls := .none, data := .fields #[] } ∧ PySem.W.CodeHd h c P := by
  obtain ⟨d, hd, e⟩ := List.any_eq_true.mp hr
  obtain ⟨a', o', fd', c', P', h1, h2, h3, h4, h5, h6⟩ := t d hd
  rw [beq_iff_eq.mp e, hm] at h1
  cases h1
  rw [X _ _ lk] at h2
  cases h2
  cases h3
  rw [hc] at h4
  cases h4
  have hd1 := PySem.W.codeHd_of_K X hP
  obtain ⟨o, us, file, tf, flags, tg, inF, text, tt, e1, r1, r2, r3, rr⟩ := id hd1
  obtain ⟨⟨oc2, vc, g1, g2, g3, g4⟩, g5⟩ := h6
  rw [e1] at g1
  cases g1
  rw [r2] at g3
  cases g3
  rw [r3] at g4
  cases g4
  exact ⟨g5, hd1⟩
theorem walk_gdT {l : PySem.W.OpenLaw} {n k : Nat} {q : Program} {loose : List Str} {XP : (Str → Option Value) → Heap → Prop} {YP : World → Heap → Prop} {d : DefRec} {K : Params → PySem.W.Frag} {CX : CXT} {x : Str}
    (most : l.most = some n) (n2 : n ≤ sizeLine) (nod : d.params.defaults = []) (rm : Room k callerA)
    (hY : ∀ (w : World) (h : Heap), YP w h → (K w.params).In h)
    (F : ∀ (w : World) (mg : Str → Option Value) (fa : Addr) (h : Heap), YP w h → (K w.params).In h → h.Ns mainGlobals mg → mg d.name = some (.ref fa) → Tabs0 q mg h →
      ∃ (fd : FuncData) (cs : List (Addr × Addr)) (sp : Sp), (∀ p ∈ cs, h.get? p.2 = some { cls := .none, data := .fields #[] }) ∧ (∀ p ∈ cs, (K w.params).lookup p.2 = none) ∧ (∀ p ∈ cs, PySem.W.CodeHd h p.1 p.2) ∧ (∀ (s : Shared) (u : Value), BindsTo s fd ⟨[u], []⟩ [(x, u)]) ∧
        (∀ (H : Hp) (a : Addr) (ns : List Int), ns.length ≤ n → (∀ z ∈ ns, Builtin.Int.intBits z ≤ 1048576) → (∀ p ∈ cs, H p.2 = some (.tbl #[])) → SqL (K w.params) H a (ns.map V.int) → sp [.ref a] H (fun v _ => v = .bl true) fun _ _ _ => False) ∧
        ∀ base : Heap, (K w.params).In base → base.Ns mainGlobals mg → (∀ p ∈ cs, TabB base mg p.1 p.2) → Gd l.prog w (K w.params) mg base CX k fa fd [x] sp)
    (quiet : ∀ (H : Hp) (s : Shared) (e : Value) (s' : Shared), CX [] H s (fun _ _ _ => False) e s' → False) :
    PySem.W.WalkO q loose XP YP l.row.toRowW d [] (fun f vs => PySem.call f vs) := by
  refine Att.attach_callB most nod fun w s0 s1 mg mb fa o pm cd doc a vs ns G Y ho hd hcd hmg hobj hints hlen hbits hg => ?_
  have kin := hY w _ Y
  obtain ⟨fd, cs, sp, t1, t2, t3, hb, st, hF⟩ := F w mg fa _ Y kin G.T.g hmg G.T.tab
  exact law_gdT kin G.T.g G.T.b G.T.builtins G.T.nolimit hg t1 t2 t3 G.T.bmain hobj hints (Nat.le_trans hlen n2) rm hF hb (fun H h1 h2 => st H a ns hlen hbits h1 h2) fun H e s' => quiet H s1 e s'
end KG

set_option Elab.async false
set_option linter.all false
set_option maxRecDepth 100000
set_option maxHeartbeats 1000000
/-! KA: data of any kind, {} among them: repr, in a tuple of the written part. -/
namespace KG
open PySem PySem.Spec PySem.Calls PyProof.Rows L2

/-- x is the data d -/
def Da (H : Hp) (x : V) (d : PyData) : Prop := ∀ (X : Cx) (pins : List (Addr × Obj)) (σ : L2.St) (s : Shared) (u : Value), Inv X pins σ H s → RelV x u → ∃ as, Reads s.heap u d as
/-- .. none of its lists and dicts the table of modules -/
def Dn (H : Hp) (x : V) (d : PyData) : Prop := ∀ (X : Cx) (pins : List (Addr × Obj)) (σ : L2.St) (s : Shared) (u : Value), Inv X pins σ H s → RelV x u → ∃ as, Reads s.heap u d as ∧ sysModules ∉ as
inductive DaAll (H : Hp) : List V → List PyData → Prop
  | nil : DaAll H [] []
  | cons {x : V} {xs : List V} {d : PyData} {ds : List PyData} : Da H x d → DaAll H xs ds → DaAll H (x :: xs) (d :: ds)
section
variable {H : Hp} {x : V} {d : PyData}
theorem Dn.da (h : Dn H x d) : Da H x d := fun X pins σ s u I r => by
  obtain ⟨as, a, _⟩ := h X pins σ s u I r
  exact ⟨as, a⟩
theorem Dn.str (z : Str) : Dn H (.str z) (.str z) := fun X pins σ s u I r => by obtain ⟨t, rfl⟩ := r; exact ⟨[], .str z t, List.not_mem_nil⟩
theorem Da.non : Da H .non .none := fun X pins σ s u I r => by cases r; exact ⟨[], .none⟩
theorem Da.bl (b : Bool) : Da H (.bl b) (.bool b) := fun X pins σ s u I r => by cases r; exact ⟨[], .bool b⟩
theorem Da.int (i : Int) : Da H (.int i) (.int i) := fun X pins σ s u I r => by obtain ⟨t, rfl⟩ := r; exact ⟨[], .int i t⟩
theorem Da.str (z : Str) : Da H (.str z) (.str z) := (Dn.str z).da
theorem DaAll.reads : ∀ {xs : List V} {ds : List PyData} (_ : DaAll H xs ds) {X : Cx} {pins : List (Addr × Obj)} {σ : L2.St} {s : Shared} {us : List Value} (_ : Inv X pins σ H s) (_ : Vals xs us), ∃ as, ReadsAll s.heap us ds as
  | _, _, .nil, _, _, _, _, _, _, .nil => ⟨[], .nil⟩
  | _, _, .cons a t, X, pins, σ, s, _, I, .cons r rt => by
    obtain ⟨as, h1⟩ := a X pins σ s _ I r
    obtain ⟨bs, h3⟩ := t.reads I rt
    exact ⟨as ++ bs, .cons h1 h3⟩
theorem Da.lst {a : Addr} {xs : List V} {ds : List PyData} (h : H a = some (.lst xs)) (t : DaAll H xs ds) : Da H (.ref a) (.list ds) := fun X pins σ s u I r => by
  obtain rfl : u = Value.ref a := r
  obtain ⟨_, its, n, rv, ho⟩ := I.hok a _ h
  obtain ⟨as, h1⟩ := t.reads I rv
  exact ⟨a :: as, .list ho rfl rfl (by simpa using h1)⟩
theorem Da.tup {a : Addr} {xs : List V} {ds : List PyData} (h : H a = some (.tup xs)) (t : DaAll H xs ds) : Da H (.ref a) (.tuple ds) := fun X pins σ s u I r => by
  obtain rfl : u = Value.ref a := r
  obtain ⟨_, its, rv, ⟨o, ho, hc, n, hd⟩⟩ := I.hok a _ h
  obtain ⟨as, h1⟩ := t.reads I rv
  exact ⟨as, .tuple ho hc hd (by simpa using h1)⟩
/-- a list of two, beside the table of modules -/
theorem Dn.two {a : Addr} {z : Str} (h : H a = some (.lst [.str z, x])) (na : a ≠ sysModules) (t : Dn H x d) : Dn H (.ref a) (.list [.str z, d]) := fun X pins σ s u I r => by
  obtain rfl : u = Value.ref a := r
  obtain ⟨_, its, n, rv, ho⟩ := I.hok a _ h
  cases rv with
  | cons r1 rt =>
    obtain ⟨k, rfl⟩ := r1
    cases rt with
    | cons r2 rt =>
      cases rt
      obtain ⟨as, h1, h2⟩ := t X pins σ s _ I r2
      refine ⟨a :: ([] ++ (as ++ [])), .list ho rfl rfl (.cons (.str z k) (.cons h1 .nil)), fun hm => ?_⟩
      rcases List.mem_cons.mp hm with e | e
      · exact na e.symm
      · simp at e
        exact h2 e
theorem Dn.dict0 {a : Addr} (h : H a = some (.dK [])) : Dn H (.ref a) (.dict []) := fun X pins σ s u I r => by
  obtain rfl : u = Value.ref a := r
  obtain ⟨_, ns, vs, kv, ob, es, ep, ho, hx, hd, _, hp, _⟩ := I.hok a _ h
  cases kv
  have e : es.toList = [] := by
    cases z : es.toList with
    | nil => rfl
    | cons y ys =>
      rw [z] at hp
      cases hp
  refine ⟨[a], .dict (kvs := []) (as := []) (bs := []) ho hx.1 hd (by rw [e]; exact .nil) (by rw [e]; exact .nil), fun hb => ?_⟩
  rw [← List.mem_singleton.mp hb] at ns
  simp at ns
theorem Da.dict0 {a : Addr} (h : H a = some (.dK [])) : Da H (.ref a) (.dict []) := (Dn.dict0 h).da
end

section
variable {X : Cx}
/-- repr(x), x any data -/
def rReprA : List V → Hp → VK → Prop := fun xs H Q => ∃ x d, xs = [x] ∧ Da H x d ∧ (d.hasDict = true → Dn H x d) ∧ d.showable = true ∧ d.depth ≤ 40 ∧ d.shown.length ≤ sizeLine ∧ Q (.str d.shown) H
theorem call_reprA {k : Nat} (rm : Room k X.A) (gd : X.A.guards = some []) : CallR X (.builtin "repr") rReprA := by
  intro pins s σ H xs us Q I r h
  obtain ⟨x, d, rfl, hd, hn, sh, dp, sz, q⟩ := h
  obtain ⟨u, rfl, r1⟩ := vals1 r
  have rdn : ∃ as, Reads s.heap u d as ∧ (d.hasDict = true → sysModules ∉ as) := by
    cases z : d.hasDict with
    | false =>
      obtain ⟨as, rd⟩ := hd X pins σ s u I r1
      exact ⟨as, rd, nofun⟩
    | true =>
      obtain ⟨as, rd, n⟩ := hn z X pins σ s u I r1
      exact ⟨as, rd, fun _ => n⟩
  obtain ⟨as, rd, ha⟩ := rdn
  have room := rm.units
  have fin : ∀ (s' : Shared) (tk : Tok), Inv X pins σ H s' → EP X pins σ Q (.str d.shown tk) s' := fun s' tk J => ⟨.str d.shown, H, J, ⟨tk, rfl⟩, q⟩
  have intsz : ∀ i : Int, d = .int i → i.natAbs.log2 < 1920 := fun i e => by
    subst e
    simpa [PyData.showable] using sh
  have big : ∀ {a : Addr}, u = .ref a → wpAny (model X.prog X.w) X.A (call (.builtin "repr") [u]) (EP X pins σ Q) X.xe s := fun {a} e => by
    subst e
    exact repr_of_reads' rd sh ha gd (by omega) (fun _ _ z => z) (fun h' u tk keep => fin _ _ (I.kept (t' := tk) keep)) sz
  cases rd with
  | none =>
    rw [PyData.shown_none] at q
    exact PySem.P.repr_of_none ⟨.str _, H, I.tok _, ⟨_, rfl⟩, q⟩
  | bool b =>
    rw [PyData.shown_bool] at q
    exact PySem.P.repr_of_bool ⟨.str _, H, I.tok _, ⟨_, rfl⟩, by cases b <;> exact q⟩
  | int i t =>
    rw [PyData.shown_int] at q
    exact PySem.P.repr_of_int (intsz i rfl) ⟨.str _, H, I.tok _, ⟨_, rfl⟩, q⟩
  | str z t =>
    rw [PyData.shown_str] at q sz
    exact PySem.P.repr_of_str ⟨.str _, H, I.tok _, ⟨_, rfl⟩, q⟩ sz
  | list h1 h2 h3 h4 => exact big rfl
  | tuple h1 h2 h3 h4 => exact big rfl
  | dict h1 h2 h3 h4 h5 => exact big rfl
/-- x not in t, t a tuple of texts of the written part, x any data -/
def rNotInA (K : PySem.W.Frag) : R2 := fun x y H Q => ∃ (p : Addr) (d : PyData) (zs : List Str), y = .ref p ∧ Da H x d ∧ d.canLay0 = true ∧ d.depth ≤ 40 ∧ KTup K p (zs.map V.str) ∧ zs.all PyData.strOk = true ∧ Q (.bl (!(zs.any fun z => PyData.eqv (.str z) d))) H
theorem strs_reads {h : Heap} : ∀ {zs : List Str} {us : List Value}, Vals (zs.map V.str) us → ReadsAll h us (zs.map PyData.str) []
  | [], _, .nil => .nil
  | z :: zs, _, .cons r t => by
    obtain ⟨k, rfl⟩ := r
    exact .cons (as := []) (bs := []) (.str z k) (strs_reads t)
theorem strs_lay : ∀ {zs : List Str}, zs.all PyData.strOk = true → PyData.canLayAll0 (zs.map PyData.str) = true
  | [], _ => by simp [PyData.canLayAll0]
  | z :: zs, h => by
    rw [List.all_cons, Bool.and_eq_true] at h
    simp [PyData.canLayAll0, PyData.canLay0, strs_lay h.2, h.1]
theorem op_notInA {k : Nat} (rm : Room k X.A) : OpR X (compareOp .NotIn) (rNotInA X.K) := by
  intro pins s σ H x y v u Q I rx ry h
  obtain ⟨p, d, zs, rfl, hd, lay, dp, ⟨o, its, n, lk, hc, hdt, _, rv⟩, zok, q⟩ := h
  obtain rfl : u = Value.ref p := ry
  obtain ⟨as, rd⟩ := hd X pins σ s v I rx
  have room := rm.units
  refine SeqAt.notIn_tuple_reads (.tuple (I.kIn _ _ lk) hc hdt (strs_reads rv)) rd (strs_lay zok) lay (Nat.lt_of_le_of_lt (Nat.add_le_add_left (Nat.min_le_right _ _) _) (by omega)) ⟨.bl _, H, I, rfl, ?_⟩
  rw [List.any_map]
  exact q
end
end KG

set_option Elab.async false
set_option linter.all false
set_option maxRecDepth 100000
set_option maxHeartbeats 1000000
/-! KV: list.count of flat items; what a caught error of a known class answers. -/
namespace KG
open PySem PySem.Spec PySem.Calls PyProof.Rows L2
section
variable {X : Cx}
def rCountF (K : PySem.W.Frag) : V → List V → Hp → VK → Prop := fun x xs H Q => ∃ (p : Addr) (ys : List V) (y : V), x = .ref p ∧ xs = [y] ∧ SqL K H p ys ∧ flatV y = true ∧ ys.all flatV = true ∧ Q (.int (ys.countP fun z => eqV z y : Nat)) H
theorem count_eqU {x : V} : ∀ {xs : List V} {us : List Value}, Vals xs us → xs.all flatV = true → us.countP (eqU x) = xs.countP fun y => eqV y x
  | _, _, .nil, _ => rfl
  | y :: xs, u :: us, .cons r t, f => by
    rw [List.all_cons, Bool.and_eq_true] at f
    rw [List.countP_cons, List.countP_cons, eqU_of r f.1, count_eqU t f.2]
theorem mt_countF : MtR X "list.count" (rCountF X.K) := by
  intro pins s σ H x xs v us Q I rx rxs h
  obtain ⟨p, ys, y, rfl, rfl, hs, fy, fys, q⟩ := h
  cases rx
  obtain ⟨u, rfl, ru⟩ := vals1 rxs
  obtain ⟨its, rv, ⟨⟨cls, dd, data, sl⟩, n, ho, hc, hdn, hd⟩, hlen⟩ := I.list hs
  simp only at hc hd
  subst hc hd
  refine call_meets PySem.F.slot_list_count ⟨_, ho, rfl⟩ PySem.F.entry_list_count (PySem.F.args_list_count_2 _ _)
    (SeqAt.list_countAt p its.toArray n dd sl u (eqU y)) ⟨ho, fun u' hu' => mem_eqAt ru fy rv fys u' (by simpa using hu'), ?_⟩
  refine ⟨.int (ys.countP fun z => eqV z y : Nat), H, I.tok _, ⟨s.toks, ?_⟩, q⟩
  show Value.int ((its.toArray.toList.countP (eqU y) : Nat) : Int) s.toks = _
  rw [show its.toArray.toList = its from rfl, count_eqU rv fys]
end
/-- a list display, its place beside the table of modules -/
def NewB (Q : VK) (xs : List V) (H : Hp) : Prop := xs.length ≤ sizeLine ∧ ∀ p, H p = none → p ≠ sysModules → Q (.ref p) (upd H p (.lst xs))
def tLstB (t : TA) : TE := fun σ H Q => t σ H fun xs H1 => NewB Q xs H1
theorem pe_lstB {X : Cx} {es : List Expr} {t : TA} {pos : Pos} (h : PA X es t) : PE X (.List es pos) (tLstB t) := by
  refine ⟨fun pins s σ H Q I hq => wpAny_List_spliced (thn (h.run pos pins s σ H _ I hq) fun us s1 ⟨xs, H1, I1, r, z, q⟩ => ⟨by rw [← r.length]; exact z, ?_⟩)⟩
  exact ⟨.ref s1.heap.objs.size, _, I1.laid (t' := s1.toks) (o := .lst xs) (fun b u e => Heap.get?_push_of_some _ e) (Nat.le_refl _) ⟨z, us, 0, r, Heap.get?_push_size _ rfl⟩, rfl, q _ (I1.hok.fresh (Nat.le_refl _)) (Nat.ne_of_gt I1.big)⟩
theorem w_lstB {σ : L2.St} {H : Hp} {Q : VK} {t : TA} (q : t σ H fun xs H1 => NewB Q xs H1) : tLstB t σ H Q := q
theorem newB {xs : List V} {H : Hp} {Q : VK} (l : xs.length ≤ sizeLine) (q : ∀ (p : Addr) (H' : Hp), H p = none → p ≠ sysModules → H' p = some (.lst xs) → Same H H' → Q (.ref p) H') : NewB Q xs H :=
  ⟨l, fun p np ns => q p _ np ns upd_same fun b u e => by rw [upd_ne (ne_of_none e np)]; exact e⟩
/-! ### steps -/
section
variable {σ : L2.St} {H : Hp} {Q : VK} {K : PySem.W.Frag}
/-- isinstance of a known error, its class and dict in the heap H -/
theorem w_isE {a D dd : Addr} {fs : List (Str × V)} {c : V} {cv : Value} {b : Bool} (ha : H a = some (ErrO (.ref D) (some dd) a)) (hd : H dd = some (.xd fs)) (C : ExcC K D) (hc : ∀ u, RelV c u → u = cv) (e : PySem.W.kitOne K (.ref D) cv = some b) (q : Q (.bl b) H) : rIsErr K [.ref a, c] H Q :=
  ⟨a, D, dd, fs, c, cv, b, rfl, ha, hd, C, hc, e, q⟩
theorem w_cat {l b : Addr} {xs zs ys : List V} (h1 : H l = some (.lst xs)) (h2 : H b = some (.lst zs)) (e : xs ++ zs = ys) (z : ys.length ≤ sizeLine) (q : ∀ (p : Addr) (H' : Hp), H p = none → H' p = some (.lst ys) → Same H H' → Q (.ref p) H') : rCat (.ref l) (.ref b) H Q :=
  ⟨l, b, xs, zs, rfl, rfl, h1, h2, by rw [← List.length_append, e]; exact z, fun p np => q p _ np (by rw [e]; exact upd_same) fun b u e => by rw [upd_ne (ne_of_none e np)]; exact e⟩
theorem w_bm {T : String} {r : V → List V → Hp → VK → Prop} {to : TE} {t : TA} (q : to σ H fun x H1 => tyV K T x H1 ∧ t σ H1 fun xs H2 => r x xs H2 Q) : tBM K T r to t σ H Q := q
theorem ty_list {p : Addr} {xs : List V} (h : H p = some (.lst xs)) : tyV K "list" (.ref p) H := .inl ⟨rfl, xs, SqL.of h⟩
theorem w_app {p : Addr} {xs ys : List V} {y : V} (h : H p = some (.lst xs)) (z : xs.length < sizeLine) (e : xs ++ [y] = ys) (q : ∀ H' : Hp, H' p = some (.lst ys) → (∀ b, b ≠ p → H' b = H b) → Q .non H') : rAppend (.ref p) [y] H Q :=
  ⟨p, xs, y, rfl, rfl, h, z, q _ (by rw [e]; exact upd_same) fun b nb => upd_ne nb⟩
theorem w_count {p : Addr} {ys : List V} {y : V} {n : Nat} (h : H p = some (.lst ys)) (f : flatV y = true) (fs : ys.all flatV = true) (e : (ys.countP fun z => eqV z y) = n) (q : Q (.int (n : Nat)) H) : rCountF K (.ref p) [y] H Q :=
  ⟨p, ys, y, rfl, rfl, SqL.of h, f, fs, by rw [e]; exact q⟩
theorem w_errf {te : TE} {f : Str} (q : te σ H fun x H1 => ∃ (a C dd : Addr) (fs : List (Str × V)) (v : V), x = .ref a ∧ H1 a = some (ErrO (.ref C) (some dd) a) ∧ H1 dd = some (.xd fs) ∧ XfC K C ∧ PySem.W.findIn K (.ref C) f = some none ∧ fs.lookup f = some v ∧ Q v H1) : tErrF K te f σ H Q := q
end
end KG

set_option Elab.async false
set_option linter.all false
set_option maxRecDepth 100000
set_option maxHeartbeats 1000000
/-! KW: methods that may raise; own errors by their def. -/
namespace KG
open PySem PySem.Spec PySem.Calls PyProof.Rows L2
section
variable {P : Program} {w : World} {K : PySem.W.Frag} {mg : Str → Option Value} {base : Heap} {k : Nat} {x m qual : Str} {st : Stmt} {ps N : List Str} {sp : Sp} {C f : Addr}
theorem MetAt.gdx (D : MetAt K C m qual st ps f) (sc : FnScope N ps (defScope st)) (len : ∀ vs H Q E, sp vs H Q E → vs.length = ps.length)
    (inner : ∀ (cdv : Value) (A : Around) (outer : List Env) (s : Shared) (H : Hp) (vs : List V) (Q : VK) (E : XK),
      Room k (A.deeper (envOfC qual (defScope st) s.heap.objs.size f cdv)) → (A.deeper (envOfC qual (defScope st) s.heap.objs.size f cdv)).guards = some [] → sp vs H Q E →
      ∃ t, PSs (cxOf (L2.CX P w) P w K mg base N qual (defScope st) f cdv A outer s H E) (defBody st) t ∧ t { nx := fun _ H' => Q .non H', rt := Q } (start N vs) H) :
    ∃ fd, Meth K C m f ∧ Fun K m qual st f fd ∧ Binds K fd ps [] ∧ Gd P w K mg base (L2.CX P w) (k + 1) f fd ps sp := by
  obtain ⟨fd, a, F, b⟩ := D.ex
  exact ⟨fd, a, F, b, gdX F sc len inner⟩
end
/-- what a def that may raise lets out -/
theorem takes_cx {P : Program} {w : World} {K : PySem.W.Frag} {mg : Str → Option Value} {base : Heap} {N : List Str} {qual : Str} {sc : Scope} {f : Addr} {cd : Value} {A : Around} {outer : List Env} {s : Shared} {H : Hp} {E : XK} :
    Takes (cxOf (L2.CX P w) P w K mg base N qual sc f cd A outer s H E) (fun cls d _ H => E cls d H) := takes_of rfl rfl rfl rfl
theorem own_cx {P : Program} {w : World} {K : PySem.W.Frag} {mg : Str → Option Value} {base : Heap} {N : List Str} {qual : Str} {sc : Scope} {f : Addr} {cd : Value} {A : Around} {outer : List Env} {s : Shared} {H : Hp} {E : XK} :
    PassesOwn (model P w) (cxOf (L2.CX P w) P w K mg base N qual sc f cd A outer s H E).A (cxOf (L2.CX P w) P w K mg base N qual sc f cd A outer s H E).env (cxOf (L2.CX P w) P w K mg base N qual sc f cd A outer s H E).xe := passes_of rfl
/-- .. the lambda's frame -/
theorem takes_lam {X : Cx} {A : Around} {outer : List Env} {s : Shared} {H : Hp} {E : XK} {scope : Scope} {f c' : Addr} : Takes (LamX.lamCx X A outer s H E scope f c') (fun cls d _ H => E cls d H) := takes_of rfl rfl rfl rfl
theorem pass_lam {X : Cx} {A : Around} {outer : List Env} {s : Shared} {H : Hp} {E : XK} {scope : Scope} {f c' : Addr} : Passes (L2.CX X.prog X.w) (LamX.lamCx X A outer s H E scope f c') E := passes_call takes_lam fun _ _ _ _ h => h
theorem pass_cx {P : Program} {w : World} {K : PySem.W.Frag} {mg : Str → Option Value} {base : Heap} {N : List Str} {qual : Str} {sc : Scope} {f : Addr} {cd : Value} {A : Around} {outer : List Env} {s : Shared} {H : Hp} {E : XK} :
    Passes (L2.CX P w) (cxOf (L2.CX P w) P w K mg base N qual sc f cd A outer s H E) E := passes_call takes_cx fun _ _ _ _ h => h
/-- the def st is an error's __init__ of two lines -/
def ErrX (st : Stmt) (qual pv fld : Str) : Prop := ∃ (msg : Str) (j : Nat) (p0 p1 p2 p3 p4 p5 p6 p7 p8 p9 : Pos), defBody st = errBody msg pv fld j p0 p1 p2 p3 p4 p5 p6 p7 p8 p9 ∧ ErrT qual pv fld msg (defArgs st) (defScope st) j p0 p1 p2 p3 p4 p5 p6 p7 p8 p9
theorem pmk_errX {X : Cx} {k : Nat} {C fI : Addr} {x qual pv fld : Str} {st : Stmt} {p pos : Pos} {e : Expr} {es : List Expr} {ta : TA} (T : ErrC X.prog X.K C fI qual pv fld (defArgs st) (defBody st) (defScope st)) (TT : ErrX st qual pv fld)
    (hr : Room (k + 1) X.A) (hg : Gl X x) (hm : X.mg x = some (.ref C)) (ha : PA X (e :: es) ta)
    (hdb : (x == ("__debug__" : Str)) = false := by decide) (hs : starEach (e :: es) X.env = (false, eval e X.env) :: starEach es X.env := by rfl) (hpl : (backTo pos (starEach es X.env)).any (·.1) = false := by rfl) :
    PMk X (.Call (.Name x p) (e :: es) [] pos) (tErr C fld ta) := by
  obtain ⟨msg, j, p0, p1, p2, p3, p4, p5, p6, p7, p8, p9, hb, TT⟩ := TT
  rw [hb] at T
  exact pmk_err T TT hr hg hm ha hdb hs hpl
end KG

set_option Elab.async false
set_option linter.all false
set_option maxRecDepth 100000
set_option maxHeartbeats 1000000
/-! KZ: a text beside a dict; not in a tuple of texts. -/
namespace KG
open PySem PySem.Spec PySem.Calls PyProof.Rows L2 SeqAt
theorem sub_str_dict : isSubtype (.type "str") (.type "dict") = pure false := by rw [isSubtype_type]; kernel_rfl
theorem sub_dict_str : isSubtype (.type "dict") (.type "str") = pure false := by rw [isSubtype_type]; kernel_rfl
theorem dict_declines (l : Addr) (es : Array DictEntry) (n : Nat) (dd : Option Addr) (sl : Array (Option Value)) (b : Str) (u : Tok) :
    Meets (Builtin.«dict.__eq__» ⟨[.ref l, .str b u], []⟩) (fun _ R s => s.heap.get? l = some { cls := .type "dict", dict := dd, data := .dict es n, slots := sl } ∧ R (.ok (.ret .notImplemented)) s) :=
  .of_wp fun prog w A R s h => by
    obtain ⟨hp, g, d, tk, os⟩ := s
    obtain ⟨hl, h⟩ := h
    have f1 := sub_str_dict
    wp_walk using wpAny_loadPart' hl
    exact ⟨_, rfl, h⟩
theorem str_declines (b : Str) (u : Tok) (l : Addr) (es : Array DictEntry) (n : Nat) (dd : Option Addr) (sl : Array (Option Value)) :
    Meets (Builtin.«str.__eq__» ⟨[.str b u, .ref l], []⟩) (fun _ R s => s.heap.get? l = some { cls := .type "dict", dict := dd, data := .dict es n, slots := sl } ∧ R (.ok (.ret .notImplemented)) s) :=
  .of_wp fun prog w A R s h => by
    obtain ⟨hp, g, d, tk, os⟩ := s
    obtain ⟨hl, h⟩ := h
    have f1 := sub_dict_str
    wp_walk using wpAny_loadPart' hl
    exact ⟨_, rfl, h⟩
theorem eqAt_str_dict {A : Around} {s : Shared} {l : Addr} {es : Array DictEntry} {n : Nat} {dd : Option Addr} {sl : Array (Option Value)} (b : Str) (u : Tok) (ho : s.heap.get? l = some { cls := .type "dict", dict := dd, data := .dict es n, slots := sl }) (hu : A.units < cLine) : EqAt A s (.str b u) (.ref l) false := fun prog w E Q h => by
  unfold eqBool
  refine wpAny_holding ?_
  refine wpAny_ite_split (fun hab => absurd (eq_of_beq hab) nofun) (fun _ => ?_)
  refine wpAny_bind (rc_eq_decline_or (k := false) (typeIs_str s b u) ⟨_, ho, rfl⟩ (by decide) sub_dict_str F.slot_str_eq F.slot_dict_eq_refl
    (fun _ hq => call_meets F.slot_str_eq (typeIs_str s b u) F.entry_str_eq (F.args_str_eq_2 _ _) (str_declines b u l es n dd sl) ⟨ho, hq⟩)
    (fun _ hq => call_meets F.slot_dict_eq_refl ⟨_, ho, rfl⟩ F.entry_dict_eq (F.args_dict_eq_2 _ _) (dict_declines l es n dd sl b u) ⟨ho, hq⟩)
    (fun _ hq => wpAny_of_eq (rfl : isSame (.str b u) (.ref l) = pure false) hq) (.inr hu) (wpAny_truthy_bool h))
section
variable {X : Cx}
/-- x not in t, t a tuple of texts of the written part, x any data, {} too -/
def rNotInB (K : PySem.W.Frag) : R2 := fun x y H Q => ∃ (p : Addr) (d : PyData) (zs : List Str), y = .ref p ∧ Da H x d ∧ (d.canLay0 = true ∨ d = .dict []) ∧ d.depth ≤ 40 ∧ KTup K p (zs.map V.str) ∧ zs.all PyData.strOk = true ∧ Q (.bl (!(zs.any fun z => PyData.eqv (.str z) d))) H
theorem strs_mem : ∀ {zs : List Str} {us : List Value}, Vals (zs.map V.str) us → ∀ u ∈ us, ∃ z t, u = Value.str z t
  | [], _, .nil => fun u h => nomatch h
  | z :: zs, _, .cons r t => fun u h => by
    rcases List.mem_cons.mp h with e | e
    · obtain ⟨k, rfl⟩ := r
      exact ⟨z, k, e⟩
    · exact strs_mem t u e
theorem op_notInB {k : Nat} (rm : Room k X.A) : OpR X (compareOp .NotIn) (rNotInB X.K) := by
  intro pins s σ H x y v u Q I rx ry h
  obtain ⟨p, d, zs, rfl, hd, lay, dp, kt, zok, q⟩ := h
  rcases lay with lay | rfl
  · exact op_notInA rm pins s σ H x _ v u Q I rx ry ⟨p, d, zs, rfl, hd, lay, dp, kt, zok, q⟩
  · obtain ⟨o, its, n, lk, hc, hdt, _, rv⟩ := kt
    obtain rfl : u = Value.ref p := ry
    obtain ⟨as, rd⟩ := hd X pins σ s v I rx
    have room := rm.units
    cases rd with
    | @dict a oo es nn kvs as bs h1 h2 h3 h4 h5 =>
      obtain ⟨oc, od, odt, osl⟩ := oo
      dsimp only at h2 h3
      subst h2 h3
      refine SeqAt.notIn_tupleAt (fun _ => false) ⟨_, I.kIn _ _ lk, hc, _, hdt⟩ (fun y hy => ?_) ⟨.bl _, H, I, rfl, ?_⟩
      · obtain ⟨z, t, rfl⟩ := strs_mem rv y (by simpa using hy)
        exact eqAt_str_dict z t h1 (by show X.A.units + 1 < cLine; omega)
      · have e1 : (its.any fun _ => false) = false := by
          rw [← Array.any_toList]
          exact List.any_eq_false.mpr fun _ _ => Bool.false_ne_true
        have e2 : (zs.any fun z => PyData.eqv (.str z) (.dict [])) = false := List.any_eq_false.mpr fun z _ => by simp [PyData.eqv]
        rw [e2] at q
        rw [e1]
        exact q
end
end KG

set_option Elab.async false
set_option linter.all false
set_option maxRecDepth 100000
set_option maxHeartbeats 1000000
/-! KO: operators of own objects beside whole numbers, calls of own objects, calls by keywords alone, defaults of methods, written dicts with whole numbers as keys. -/
namespace KG
open PySem PySem.Spec PySem.Calls PyProof.Rows L2
section
variable {X : Cx} {CX : CXT} {k : Nat} {f C : Addr} {fd : FuncData} {ps ks : List Str} {sp : Sp} {E : XK} {x : Str} {p pos : Pos} {e : Expr} {es : List Expr} {kws : List Keyword} {ta t tk : TA}
/-- o op i, o an own object, i a whole number -/
def rOwnI (C : Addr) (sp : Sp) (E : XK) : R2 := fun x y H Q => ∃ (a dx : Addr) (fs : List (Str × V)) (i : Int), x = .ref a ∧ H a = some (.ins C dx fs) ∧ y = .int i ∧ sp [.ref a, .int i] H Q E
/-- what the class has for an operator -/
structure OpAt (K : PySem.W.Frag) (C f : Addr) (op : Operator) : Prop where
  first : PySem.W.selfFirst K C = true
  own : PySem.W.findIn K (.ref C) (PySem.dunder op.info.2) = some (some (.ref f))
  fn : PySem.W.isFn K (.ref f) = true
  refl : ∃ rc, PySem.W.findIn K (.ref C) (dunderR op.info.2) = some rc ∧ (rc = none ∨ ∃ g : Addr, rc = some (.ref g))
  int1 : ∃ fo, PySem.W.findIn K (.type "int") (PySem.dunder op.info.2) = some fo
  int2 : ∃ ro, PySem.W.findIn K (.type "int") (dunderR op.info.2) = some ro
  sub : PySem.W.subIn K (.type "int") (.ref C) = some false
theorem op_ownI {op : Operator} (O : OpAt X.K C f op) (F : Gd X.prog X.w X.K X.mg X.base CX k f fd ps sp) (rm : Room k X.A) (gd : X.A.guards = some []) (hb : Binds X.K fd ps []) (hx : Passes CX X E) : OpR X (binaryOp op) (rOwnI C sp E) := by
  intro pins s σ H x y v u Q I rx ry h
  obtain ⟨a, dx, fs, i, rfl, ea, rfl, q⟩ := h
  obtain rfl : v = Value.ref a := rx
  obtain ⟨t, rfl⟩ := ry
  obtain ⟨mA, J, _⟩ := ins_get I.hok ea
  obtain ⟨od, J, _⟩ := J.look
  obtain ⟨m, fr⟩ := I.fr
  obtain ⟨rc, hr, hp⟩ := O.refl
  obtain ⟨fo, h1⟩ := O.int1
  obtain ⟨ro, h2⟩ := O.int2
  have r2 : Vals [V.ref a, .int i] [Value.ref a, .int i t] := .cons rfl (.cons ⟨t, rfl⟩ .nil)
  have bt := bind_pos (dvs := []) (vs := [V.ref a, .int i]) F hb .nil I.kIn r2 q
  refine PySem.W.ksp_binT fr I.ok.mod.kin J rfl O.first O.own O.fn hr hp h1 h2 O.sub ?_
  refine wpAny_mono (run_g (us := [.ref a, .int i t]) F rm gd hx I bt r2 q) (fun v s' hv => ?_) fun _ _ z => z
  have rv : ∃ z, RelV z v := let ⟨z, _, _, rz, _⟩ := hv; ⟨z, rz⟩
  exact rv.elim fun z rz => SlX.cmpback rz hv
theorem w_own {a dx : Addr} {fs : List (Str × V)} {i : Int} {H : Hp} {Q : VK} (h : H a = some (.ins C dx fs)) (q : sp [.ref a, .int i] H Q E) : rOwnI C sp E (.ref a) (.int i) H Q := ⟨a, dx, fs, i, rfl, h, rfl, q⟩
/-! ### o(e, ..), o an own object that a name holds -/
def tOwnC (C : Addr) (sp : Sp) (E : XK) (n : Nat) (ta : TA) : TE := fun σ H Q => ∃ a : Addr, σ[n]? = some (some (.ref a)) ∧ ta σ H fun vs H1 => ∃ dx fs, H1 a = some (.ins C dx fs) ∧ sp (.ref a :: vs) H1 Q E
theorem own_with {M : Model} {A : Around} {W : Value → Shared → Prop} {s : Shared} {x C : Addr} {K : PySem.W.Frag} {args : List (Bool × Sem Value)} {Q : Value → Shared → Prop} (plain : (args.any (·.1) || ([] : List (Option Str × Sem Value)).any (·.1.isNone)) = false)
    (h : wpAny M A (evalArgs (.ref x) true args []) (fun a s1 => (∃ ox od, PySem.W.InstAt s1.heap x ox C od ∧ ox.data = .plain) ∧ wpAny M A (call (.ref x) a.pos a.kw) Q W s1) W s) : wpAny M A (callWith pos (.ref x) [] args []) Q W s := by
  unfold callWith
  refine wpAny_bind (wpAny_holding (wpAny_mono h (fun a s1 ⟨⟨ox, od, J, hd⟩, g⟩ => wpAny_bind (wpAny_standAt ?_)) fun _ _ z => z))
  simp only [plain]
  refine wpAny_bind ((PySem.W.kco_keeper (M := M) J hd).here ?_)
  have behind : ∀ {t : Sem Value}, wpAny M A t Q W s1 → wpAny M A (t >>= fun r => holding [r] point >>= fun _ => pure r) Q W s1 := fun ht =>
    wpAny_bind (wpAny_mono ht (fun r s2 hr => wpAny_bind (wpAny_holding (wpAny_point (wpAny_pure hr)))) fun _ _ z => z)
  exact behind (wpAny_operateT g)
theorem pe_ownC {n : Nat} (O : PySem.W.findIn X.K (.ref C) "__call__" = some (some (.ref f))) (fn : PySem.W.isFn X.K (.ref f) = true) (fi : PySem.W.fnIn X.K f = true) (F : Gd X.prog X.w X.K X.mg X.base CX k f fd ps sp) (rm : Room k X.A) (gd : X.A.guards = some []) (hb : Binds X.K fd ps []) (hx : Passes CX X E)
    (hv : PE X (.Name x p) (tVar n)) (ha : PA X (e :: es) ta) (he : starEach (e :: es) X.env = (false, eval e X.env) :: starEach es X.env := by rfl) (hpl : (backTo pos (starEach es X.env)).any (·.1) = false := by rfl) :
    PE X (.Call (.Name x p) (e :: es) [] pos) (tOwnC C sp E n ta) := by
  refine ⟨fun pins s σ H Q I h => ?_⟩
  obtain ⟨a, ea, q⟩ := h
  refine wpAny_Call_Name_kw (wpAny_mono (hv.run pins s σ H (fun v H' => v = .ref a ∧ ta σ H' fun vs H1 => ∃ dx fs, H1 a = some (.ins C dx fs) ∧ sp (.ref a :: vs) H1 Q E) I ⟨_, ea, rfl, q⟩) (fun u s1 hu => ?_) fun _ _ z => z)
  obtain ⟨v, H1, I1, rv, ev, q1⟩ := hu
  subst ev
  obtain rfl : u = Value.ref a := rv
  show wpAny _ _ (callWith pos (.ref a) [] (backTo pos (starEach (e :: es) X.env)) []) _ _ _
  rw [he]
  refine own_with (K := X.K) (C := C) (by show ((false || (backTo pos (starEach es X.env)).any (·.1)) || false) = false; rw [hpl]; rfl) (evalArgs_plain ?_)
  have args := ha.run pos pins s1 σ H1 _ I1 q1
  rw [he] at args
  refine wpAny_mono args (fun us s2 hs => ?_) fun _ _ z => z
  obtain ⟨vs, H2, J, r, dx, fs, ea2, q2⟩ := hs
  obtain ⟨mA, Z, _⟩ := ins_get J.hok ea2
  obtain ⟨od, Z, zd⟩ := Z.look
  refine ⟨⟨_, od, Z, by first | exact zd | rfl⟩, wpAny_call (PySem.W.kco_code J.kIn Z (by first | exact zd | rfl) O fn fi ?_)⟩
  have r1 : Vals (V.ref a :: vs) (Value.ref a :: us) := .cons rfl r
  refine codeAny_mono (F.go X.A X.stack s2 H2 ⟨.ref a :: us, []⟩ _ _ _ E rm gd J.env0 (bind_pos (dvs := []) F hb .nil J.kIn r1 (by rw [List.append_nil]; exact q2)) (by rw [List.append_nil]; exact r1) q2) fun out s' hq => ?_
  match out, hq with
  | .error e, hq => exact hx pins σ H2 s2 e s' J hq
  | .ok (.ret u), hq => exact J.after hq
/-! ### f(k = v, ..) -/
def tCallK (j : Nat) (sp : Sp) (gV : List V → List V) (E : XK) (tk : TA) : TE := fun σ H Q => tk σ H fun zs H2 => zs.length = j ∧ sp (gV zs) H2 Q E
theorem pe_gcallK {g : List Value → List Value → List Value} {gV : List V → List V → List V} (F : Gd X.prog X.w X.K X.mg X.base CX k f fd ps sp) (rm : Room k X.A) (gd : X.A.guards = some []) (gl : Gl X x) (at_ : X.mg x = some (.ref f)) (kp : PySem.W.keepIn X.K (.ref f) = true)
    (hb : KBn X.K fd ps 0 ks g gV) (hx : Passes CX X E) (hkw : PK X kws tk) (hall : (backToKw pos (keywordEach kws X.env)).all (·.1.isSome) = true := by rfl) (hks : (backToKw pos (keywordEach kws X.env)).filterMap (·.1) = ks := by rfl)
    (hdb : (x == ("__debug__" : Str)) = false := by decide) (hpl : ((backTo pos (starEach [] X.env)).any (·.1) || (backToKw pos (keywordEach kws X.env)).any (·.1.isNone)) = false := by rfl) :
    PE X (.Call (.Name x p) [] kws pos) (tCallK ks.length sp (gV []) E tk) := by
  refine ⟨fun pins s σ H Q I h => wpAny_Call_Name_kw (ld_glob I gl at_ (PySem.W.callWith_KW0 (first := []) (h₀ := X.base) I.ok.mod.kin kp hall (thn (hkw.run pos pins s σ H _ I h) fun ws s2 ⟨zs, H2, J, rz, lz, q2⟩ => ⟨J.kIn, ?_⟩) hpl) hdb)⟩
  rw [hks]
  exact run_g (us := []) F rm gd hx J (hb.to s2 [] ws J.kIn rfl (rz.length.symm.trans lz)) (hb.rel .nil rz) q2
theorem w_callK {σ : L2.St} {H : Hp} {Q : VK} {j : Nat} {gV : List V → List V} (q : tk σ H fun zs H2 => zs.length = j ∧ sp (gV zs) H2 Q E) : tCallK j sp gV E tk σ H Q := q
end
/-! ### defaults of a method -/
section
variable {P : Program} {w : World} {K : PySem.W.Frag} {mg : Str → Option Value} {base : Heap} {k : Nat} {x qual : Str} {st : Stmt} {ps N : List Str} {sp : Sp} {f : Addr} {fd : FuncData} {dvs : List V} {kws : List (Str × V)}
theorem gdD (F : FunD K x qual (defArgs st) (defBody st) (defScope st) dvs kws f fd) (sc : FnScope N ps (defScope st)) (len : ∀ vs H Q E, sp vs H Q E → vs.length = ps.length)
    (inner : ∀ (cdv : Value) (A : Around) (outer : List Env) (s : Shared) (H : Hp) (vs : List V) (Q : VK) (E : XK),
      Room k (A.deeper (envOfC qual (defScope st) s.heap.objs.size f cdv)) → (A.deeper (envOfC qual (defScope st) s.heap.objs.size f cdv)).guards = some [] → sp vs H Q E →
      ∃ t, PSs (cxOf (L2.CX P w) P w K mg base N qual (defScope st) f cdv A outer s H E) (defBody st) t ∧ t { nx := fun _ H' => Q .non H', rt := Q } (start N vs) H) :
    Gd P w K mg base (L2.CX P w) (k + 1) f fd ps sp := by
  obtain ⟨oc, od, dV, kV, doc, pm, an, cdv, ct, osl, rfl, found, code, _, _⟩ := F.ex
  exact gd_of found code sc len fun A outer s H vs Q E rm gd q => inner cdv A outer s H vs Q E rm gd q
/-- a def of the text that may raise -/
theorem gdF {x : Str} (F : Fun K x qual st f fd) (sc : FnScope N ps (defScope st)) (len : ∀ vs H Q E, sp vs H Q E → vs.length = ps.length)
    (inner : ∀ (cdv : Value) (A : Around) (outer : List Env) (s : Shared) (H : Hp) (vs : List V) (Q : VK) (E : XK),
      Room k (A.deeper (envOfC qual (defScope st) s.heap.objs.size f cdv)) → (A.deeper (envOfC qual (defScope st) s.heap.objs.size f cdv)).guards = some [] → sp vs H Q E →
      ∃ t, PSs (cxOf (L2.CX P w) P w K mg base N qual (defScope st) f cdv A outer s H E) (defBody st) t ∧ t { nx := fun _ H' => Q .non H', rt := Q } (start N vs) H) :
    Gd P w K mg base (L2.CX P w) (k + 1) f fd ps sp := gdX F sc len inner
end
/-- the def x, promised sp, which may raise -/
def CalX (P : Program) (w : World) (K : PySem.W.Frag) (mg : Str → Option Value) (base : Heap) (j : Nat) (x : Str) (ps : List Str) (sp : Sp) : Prop :=
  ∃ f fd, mg x = some (.ref f) ∧ PySem.W.keepIn K (.ref f) = true ∧ Binds K fd ps [] ∧ (∃ (oc : Value) (od : Option Addr) (osl : Array (Option Value)), K.lookup f = some ⟨oc, od, .func fd, osl⟩) ∧ Gd P w K mg base (L2.CX P w) j f fd ps sp
/-- .. called by keywords alone -/
def CalK (P : Program) (w : World) (K : PySem.W.Frag) (mg : Str → Option Value) (base : Heap) (j : Nat) (x : Str) (ks : List Str) (is : List Nat) (sp : Sp) : Prop :=
  ∃ f fd ps, mg x = some (.ref f) ∧ PySem.W.keepIn K (.ref f) = true ∧ KBn K fd ps 0 ks (fun us ws => us ++ sel is ws) (fun vs zs => vs ++ sel is zs) ∧ Gd P w K mg base (L2.CX P w) j f fd ps sp
section
variable {P : Program} {w : World} {K : PySem.W.Frag} {mg : Str → Option Value} {base : Heap} {k j : Nat} {x : Str} {st : Stmt} {ps N ks : List Str} {is : List Nat} {sp : Sp}
theorem DefAt.calX (D : DefAt K mg x st ps) (sc : FnScope N ps (defScope st)) (len : ∀ vs H Q E, sp vs H Q E → vs.length = ps.length)
    (inner : ∀ (f : Addr) (cdv : Value) (A : Around) (outer : List Env) (s : Shared) (H : Hp) (vs : List V) (Q : VK) (E : XK),
      Room k (A.deeper (envOfC x (defScope st) s.heap.objs.size f cdv)) → (A.deeper (envOfC x (defScope st) s.heap.objs.size f cdv)).guards = some [] → sp vs H Q E →
      ∃ t, PSs (cxOf (L2.CX P w) P w K mg base N x (defScope st) f cdv A outer s H E) (defBody st) t ∧ t { nx := fun _ H' => Q .non H', rt := Q } (start N vs) H) :
    CalX P w K mg base (k + 1) x ps sp := by
  obtain ⟨f, fd, a, F, b⟩ := D.ex
  have G : Gd P w K mg base (L2.CX P w) (k + 1) f fd ps sp := gdX F sc len (inner f)
  obtain ⟨oc, od, kV, doc, pm, an, cdv, ct, osl, e, found, code⟩ := F.ex
  exact ⟨f, fd, a, F.kp, b, ⟨oc, od, osl, by rw [found, e]⟩, G⟩
theorem CalX.kw (c : CalX P w K mg base j x ps sp) (D : DefAt K mg x st ps) (h : BindOkK x x st ps 0 ks is) : CalK P w K mg base j x ks is sp := by
  obtain ⟨f, fd, a, kp, b, ⟨oc, od, osl, l⟩, G⟩ := c
  obtain ⟨f', fd', a', F, _⟩ := D.ex
  rw [a] at a'
  cases a'
  have e : fd' = fd := by
    obtain ⟨_, _, _, _, _, _, _, _, _, _, found, _⟩ := F.ex
    rw [l] at found
    cases found
    rfl
  rw [e] at F
  exact ⟨f, fd, ps, a, kp, kbn_of F 0 ks is h, G⟩
end
section
variable {X : Cx} {j k : Nat} {x : Str} {ps ks : List Str} {is : List Nat} {sp : Sp} {p pos : Pos} {e : Expr} {es : List Expr} {kws : List Keyword} {t tk : TA} {E : XK}
theorem pcX (c : CalX X.prog X.w X.K X.mg X.base j x ps sp) (hx : Passes (L2.CX X.prog X.w) X E) (rm : Room k X.A) (hk : j ≤ k) (gd : X.A.guards = some []) (gl : Gl X x) (ha : PA X (e :: es) t)
    (hdb : (x == ("__debug__" : Str)) = false := by decide) (he : starEach (e :: es) X.env = (false, eval e X.env) :: starEach es X.env := by rfl) (hpl : (backTo pos (starEach es X.env)).any (·.1) = false := by rfl) :
    PE X (.Call (.Name x p) (e :: es) [] pos) (tCall sp [] E t) := by
  obtain ⟨f, fd, a, kp, b, _, F⟩ := c
  exact pe_gcall F (rm.mono hk) gd gl a kp b .nil hx ha hdb he hpl
theorem pcK (c : CalK X.prog X.w X.K X.mg X.base j x ks is sp) (hx : Passes (L2.CX X.prog X.w) X E) (rm : Room k X.A) (hk : j ≤ k) (gd : X.A.guards = some []) (gl : Gl X x) (hkw : PK X kws tk)
    (hall : (backToKw pos (keywordEach kws X.env)).all (·.1.isSome) = true := by rfl) (hks : (backToKw pos (keywordEach kws X.env)).filterMap (·.1) = ks := by rfl)
    (hdb : (x == ("__debug__" : Str)) = false := by decide) (hpl : ((backTo pos (starEach [] X.env)).any (·.1) || (backToKw pos (keywordEach kws X.env)).any (·.1.isNone)) = false := by rfl) :
    PE X (.Call (.Name x p) [] kws pos) (tCallK ks.length sp (fun zs => [] ++ sel is zs) E tk) := by
  obtain ⟨f, fd, ps, a, kp, b, F⟩ := c
  exact pe_gcallK F (rm.mono hk) gd gl a kp b hx hkw hall hks hdb hpl
end
/-! ### a written dict with whole numbers as keys -/
inductive KEnts : List DictEntry → List (Int × V) → Prop
  | nil : KEnts [] []
  | cons {e : DictEntry} {i : Int} {v : V} {es : List DictEntry} {kvs : List (Int × V)} : (∃ t, e.key = .int i t) → e.hash = hashInt i → RelV v e.val → KEnts es kvs → KEnts (e :: es) ((i, v) :: kvs)
def KID (K : PySem.W.Frag) (p : Addr) (kvs : List (Int × V)) : Prop := (p == sysModules) = false ∧ ∃ (es : List DictEntry) (n : Nat), K.lookup p = some ⟨.type "dict", none, .dict es.toArray n, #[]⟩ ∧
  KEnts es kvs
theorem kid_find {es : List DictEntry} {kvs : List (Int × V)} (h : KEnts es kvs) (i : Int) :
    (kvs.lookup i = none ∧ findBy Value.isInt es.toArray i = none) ∨ ∃ v u, kvs.lookup i = some v ∧ findBy Value.isInt es.toArray i = some u ∧ RelV v u := by
  unfold findBy
  rw [List.find?_toArray]
  induction h with
  | nil => exact .inl ⟨rfl, rfl⟩
  | @cons e j v es kvs hk _ rv t ih =>
    obtain ⟨tk, ek⟩ := hk
    have e1 : Value.isInt i e.key = decide (j = i) := by
      rw [ek]
      show (j == i) = decide (j = i)
      by_cases h : j = i
      · rw [decide_eq_true h, h]; exact beq_self_eq_true i
      · rw [decide_eq_false h]; exact beq_eq_false_iff_ne.mpr h
    by_cases z : j = i
    · subst z
      refine .inr ⟨v, e.val, by simp [List.lookup_cons], ?_, rv⟩
      rw [List.find?_cons_of_pos (by rw [e1]; exact decide_eq_true rfl)]
      rfl
    · have n1 : (i == j) = false := beq_eq_false_iff_ne.mpr (Ne.symm z)
      rw [List.lookup_cons, n1, List.find?_cons_of_neg (by rw [e1]; simpa using z)]
      exact ih
section
variable {X : Cx}
theorem kid_map {p : Addr} {kvs : List (Int × V)} {h : Heap} (kin : X.K.In h) {es : List DictEntry} {n : Nat} (l : X.K.lookup p = some ⟨.type "dict", none, .dict es.toArray n, #[]⟩) (f : KEnts es kvs) :
    h.MapOf (intKind X.prog X.w) p fun i => findBy Value.isInt es.toArray i := by
  refine ⟨_, es.toArray, n, kin _ _ l, ⟨rfl, rfl, rfl⟩, rfl, fun e he => ?_, fun _ => rfl⟩
  have he : e ∈ es := by simpa using he
  revert he
  clear l
  intro he
  rename e ∈ es.toArray => old
  clear old
  induction f with
  | nil => cases he
  | cons a hh _ _ ih =>
    rcases List.mem_cons.mp he with z | z
    · subst z
      obtain ⟨t, ek⟩ := a
      exact ⟨_, by rw [ek]; exact intKind_is _ _ _ _, hh⟩
    · exact ih z
def rInKI (K : PySem.W.Frag) : R2 := fun x y H Q => ∃ (i : Int) (p : Addr) (kvs : List (Int × V)), x = .int i ∧ y = .ref p ∧ KID K p kvs ∧ Q (.bl (kvs.lookup i).isSome) H
theorem op_inKI : OpR X (compareOp .In) (rInKI X.K) := by
  intro pins s σ H x y v u Q I rx ry h
  obtain ⟨i, p, kvs, rfl, rfl, ⟨lo, es, n, l, f⟩, q⟩ := h
  obtain ⟨t, rfl⟩ := rx
  cases ry
  refine wpAny_in_of (intKind_is X.prog X.w i t) lo (kid_map I.kIn l f) ?_
  have e : (findBy Value.isInt es.toArray i).isSome = (kvs.lookup i).isSome := by
    rcases kid_find f i with ⟨a, b⟩ | ⟨_, _, a, b, _⟩ <;> rw [a, b] <;> rfl
  rw [e]
  exact ⟨.bl (kvs.lookup i).isSome, H, I.tok _, rfl, q⟩
def rIxKI (K : PySem.W.Frag) : R2 := fun x y H Q => ∃ (i : Int) (p : Addr) (kvs : List (Int × V)) (v : V), x = .ref p ∧ y = .int i ∧ KID K p kvs ∧ kvs.lookup i = some v ∧ Q v H
theorem ix_KI : IxR X (rIxKI X.K) := by
  intro value slice pins s σ H x y v u Q I rx ry h hs
  obtain ⟨i, p, kvs, z, rfl, rfl, ⟨lo, es, n, l, f⟩, hz, q⟩ := h
  obtain rfl : v = Value.ref p := rx
  obtain ⟨t, rfl⟩ := ry
  have hm := kid_map I.kIn l f
  rcases kid_find f i with ⟨a, _⟩ | ⟨v1, u1, a, b, r⟩
  · rw [a] at hz; cases hz
  · rw [a] at hz
    cases hz
    exact tail_any hm.typeIs slot_dict_getitem.lookup (wpAny_getItem_of (intKind_is X.prog X.w i t) hm b ⟨_, H, I.tok _, r, q⟩) hs
end
/-! ### steps -/
section
variable {σ : L2.St} {H : Hp} {Q : VK} {ta tb tc : TE} {i j : Int}
/-- what a comprehension asks -/
def LcQ (J : It) (g : TG) (tt : TT) (te : TE) (vs : List Nat) (σ : L2.St) (H1 : Hp) (Q : VK) : Prop := ∀ D, H1 D = none → ∃ W : Nat → Nat → Hp → Prop, (∃ m, W 0 m (upd H1 D (.lst []))) ∧ ∀ i m H, W i m H →
  (J.stop i H ∧ Q (.ref D) H) ∨ (J.go i H ∧ ∃ Nx : Hp → Prop, (∀ H', Nx H' → ∃ m', m' < m ∧ W (i + 1) m' H') ∧ ∀ x H', J.yld i H x H' → g x (wipe σ vs) H' fun σ2 H2 => wipe σ2 vs = wipe σ vs ∧ tt σ2 H2 fun b H3 =>
    if b = true then te σ2 H3 fun y H4 => ∃ acc, H4 D = some (.lst acc) ∧ acc.length < sizeLine ∧ Nx (upd H4 D (.lst (acc ++ [y]))) else Nx H3)
theorem w_lc {wi : TI} {g : TG} {tt : TT} {te : TE} {vs : List Nat} (q : wi σ H fun J H1 => LcQ J g tt te vs σ H1 Q) : tLc wi g tt te vs σ H Q := q
theorem w_notV (q : ta σ H fun x H1 => ∃ c, x = .bl c ∧ Q (.bl (!c)) H1) : tNotV ta σ H Q := q
theorem w_chain {r r' : R2} (q : ta σ H fun x H1 => tb σ H1 fun y H2 => r x y H2 fun z H3 => ∃ k, z = .bl k ∧ (if k = true then tc σ H3 fun w' H4 => r' y w' H4 Q else Q (.bl false) H3)) : tChain r r' ta tb tc σ H Q := q
theorem w_neg (q : Q (.int (-i)) H) : rU (fun i => .int (-i)) (.int i) H Q := ⟨i, rfl, q⟩
theorem w_shl (c : CPow i j) (q : Q (.int (i * 2 ^ j.toNat)) H) : rI CPow (fun i j => .int (i * 2 ^ j.toNat)) (.int i) (.int j) H Q := ⟨i, j, rfl, rfl, c, q⟩
theorem w_shr (c : 0 ≤ j) (q : Q (.int (i / 2 ^ j.toNat)) H) : rI (fun _ j => 0 ≤ j) (fun i j => .int (i / 2 ^ j.toNat)) (.int i) (.int j) H Q := ⟨i, j, rfl, rfl, c, q⟩
end
end KG

set_option Elab.async false
set_option linter.all false
set_option maxRecDepth 100000
set_option maxHeartbeats 1000000
/-! KP: operators with a whole number on the left of an own object, in-place forms of own operators, the unary one. -/
namespace KG
open PySem PySem.Spec PySem.Calls PyProof.Rows L2
/-- what a whole number's own operator says beside an own object -/
def Nay (op : Operator) (idl : String) : Prop := ∀ (prog : Program) (w : World) (A : Around) (E : Value → Shared → Prop) (s : Shared) (i : Int) (t : Tok) (x C dx : Addr) (Q : Option Value → Shared → Prop), s.heap.get? x = some (PySem.W.instObj C dx) → Q none s → wpAny (model prog w) A (tryMethod (.int i t) (PySem.dunder op.info.2) (.ref x)) Q E s
theorem meets_and (i : Int) (t : Tok) (x C dx : Addr) : Meets (Builtin.«int.__and__» ⟨[.int i t, .ref x], []⟩) (fun _ R s => s.heap.get? x = some (PySem.W.instObj C dx) ∧ R (.ok (.ret Value.notImplemented)) s) :=
  .of_wp fun prog w A R s h => by
    obtain ⟨hp, g, d, tk, os⟩ := s
    obtain ⟨hl, h⟩ := h
    wp_walk using wpAny_loadPart' hl
    exact ⟨_, rfl, h⟩
theorem nay_and : Nay .BitAnd "int.__and__" := by
  intro prog w A E s i t x C dx Q ho q
  exact wpAny_tryMethod_declines (name := PySem.dunder "and") (typeIs_int s i t) PyProof.Rows.slot_int_and (call_meets PyProof.Rows.slot_int_and (typeIs_int s i t) PyProof.Rows.entry_int_and (PyProof.Rows.args_int_and _ _) (meets_and i t x C dx) ⟨ho, rfl, q⟩)
theorem meets_or (i : Int) (t : Tok) (x C dx : Addr) : Meets (Builtin.«int.__or__» ⟨[.int i t, .ref x], []⟩) (fun _ R s => s.heap.get? x = some (PySem.W.instObj C dx) ∧ R (.ok (.ret Value.notImplemented)) s) :=
  .of_wp fun prog w A R s h => by
    obtain ⟨hp, g, d, tk, os⟩ := s
    obtain ⟨hl, h⟩ := h
    wp_walk using wpAny_loadPart' hl
    exact ⟨_, rfl, h⟩
theorem nay_or : Nay .BitOr "int.__or__" := by
  intro prog w A E s i t x C dx Q ho q
  exact wpAny_tryMethod_declines (name := PySem.dunder "or") (typeIs_int s i t) PyProof.Rows.slot_int_or (call_meets PyProof.Rows.slot_int_or (typeIs_int s i t) PyProof.Rows.entry_int_or (PyProof.Rows.args_int_or _ _) (meets_or i t x C dx) ⟨ho, rfl, q⟩)
theorem meets_xor (i : Int) (t : Tok) (x C dx : Addr) : Meets (Builtin.«int.__xor__» ⟨[.int i t, .ref x], []⟩) (fun _ R s => s.heap.get? x = some (PySem.W.instObj C dx) ∧ R (.ok (.ret Value.notImplemented)) s) :=
  .of_wp fun prog w A R s h => by
    obtain ⟨hp, g, d, tk, os⟩ := s
    obtain ⟨hl, h⟩ := h
    wp_walk using wpAny_loadPart' hl
    exact ⟨_, rfl, h⟩
theorem nay_xor : Nay .BitXor "int.__xor__" := by
  intro prog w A E s i t x C dx Q ho q
  exact wpAny_tryMethod_declines (name := PySem.dunder "xor") (typeIs_int s i t) PyProof.Rows.slot_int_xor (call_meets PyProof.Rows.slot_int_xor (typeIs_int s i t) PyProof.Rows.entry_int_xor (PyProof.Rows.args_int_xor _ _) (meets_xor i t x C dx) ⟨ho, rfl, q⟩)
section
variable {prog : Program} {w : World} {A : Around} {E : Value → Shared → Prop} {s : Shared} {K : PySem.W.Frag} {x C dx f g : Addr} {od : Option Obj} {h₀ : Heap} {L : Addr} {m : Str → Option Value} {op : Operator} {idl : String} {i : Int} {t : Tok}
/-- i op o, o an own object whose class has the operator on both sides -/
theorem back_side {Q : Value → Shared → Prop} (X : K.In s.heap) (I : PySem.W.InstAt s.heap x (PySem.W.instObj C dx) C od) (hc : PySem.W.selfFirst K C = true)
    (hs : PySem.W.findIn K (.ref C) (PySem.dunder op.info.2) = some (some (.ref f))) (hr : PySem.W.findIn K (.ref C) (dunderR op.info.2) = some (some (.ref g))) (hg : PySem.W.isFn K (.ref g) = true)
    (hsub : PySem.W.subIn K (.ref C) (.type "int") = some false) (fills : fillsNumberSlot (.type "int") op.info.2 = pure true) (no : Nay op idl)
    (q : wpAny (model prog w) A (call (.ref g) [.ref x, .int i t]) (PySem.W.CmpBack Q) E s) : wpAny (model prog w) A (binaryOp op (.int i t) (.ref x)) Q E s := by
  obtain ⟨cd, rest, ec, em⟩ := PySem.W.ksp_first hc
  have fl := PySem.W.fills_K (M := model prog w) X ec em hs
  have tx := I.type (M := model prog w)
  have tr := PySem.W.ksp_try (M := model prog w) (A := A) (E := E) X I hr hg q
  have tl : ∀ Q', Q' none s → wpAny (model prog w) A (tryMethod (.int i t) (PySem.dunder op.info.2) (.ref x)) Q' E s := fun Q' z => no prog w A E s i t x C dx Q' I.at_ z
  have sb := PySem.W.looks_subIn (M := model prog w) X hsub
  rcases ho : op.info with ⟨sym, nm⟩
  rw [ho] at fl tr tl fills
  simp only at fl tr tl fills
  have ne : (Value.type "int" == Value.ref C) = false := rfl
  have np : numberSlotInPython (.type "int") nm = pure false := rfl
  simp only [binaryOp, ho]
  refine wpAny_holding (wpAny_bind ?_)
  unfold binaryOp1
  refine wpAny_bind (wpAny_typeOf (typeIs_int s i t) (wpAny_bind (tx.here (wpAny_bind (wpAny_of_eq fills ?_)))))
  simp only [ne, Bool.false_eq_true, if_false]
  refine wpAny_bind (fl.here ?_)
  simp only [Bool.and_self, if_true]
  refine wpAny_bind (sb.here ?_)
  simp only [Bool.false_eq_true, if_false, pure_bind, Bool.not_false, Bool.and_self, if_true, np]
  refine wpAny_bind (tl _ ?_)
  refine wpAny_bind (wpAny_mono tr (fun r s' z => ?_) fun _ _ z => z)
  obtain ⟨v, rfl, z⟩ := z
  exact wpAny_bind (wpAny_rule (wpAny_pure (wpAny_pure z)))
/-- what o op i asks and does, o an own object whose class has the operator, i a whole number -/
theorem fore_side {Q : Option Value → Shared → Prop} {rc ro : Option Value} (X : K.In s.heap) (I : PySem.W.InstAt s.heap x (PySem.W.instObj C dx) C od) (hc : PySem.W.selfFirst K C = true)
    (hs : PySem.W.findIn K (.ref C) (PySem.dunder op.info.2) = some (some (.ref f))) (hf : PySem.W.isFn K (.ref f) = true) (hr : PySem.W.findIn K (.ref C) (dunderR op.info.2) = some rc) (hp : rc = none ∨ ∃ b : Addr, rc = some (.ref b))
    (hsub : PySem.W.subIn K (.type "int") (.ref C) = some false) (fills : fillsNumberSlot (.type "int") op.info.2 = pure true) (hi : PySem.W.findIn K (.type "int") (dunderR op.info.2) = some ro)
    (q : wpAny (model prog w) A (call (.ref f) [.ref x, .int i t]) (PySem.W.CmpBack fun v => Q (some v)) E s) : wpAny (model prog w) A (binaryOp1 op.info.2 (.ref x) (.int i t)) Q E s := by
  obtain ⟨cd, rest, ec, em⟩ := PySem.W.ksp_first hc
  have fl := PySem.W.fills_K (M := model prog w) X ec em hs
  have tx := I.type (M := model prog w)
  have tr := PySem.W.ksp_try (M := model prog w) (A := A) (E := E) (Q := fun v => Q (some v)) X I hs hf q
  have py := PySem.W.ksp_inPy (M := model prog w) X hs hr hp
  have sb := PySem.W.looks_subIn (M := model prog w) X hsub
  have lr := PySem.W.looks_findIn (M := model prog w) X hi
  generalize op.info.2 = nm at fl tr py lr fills
  have ne : (Value.ref C == Value.type "int") = false := rfl
  have np : numberSlotInPython (.type "int") nm = pure false := rfl
  unfold binaryOp1
  refine wpAny_bind (tx.here (wpAny_bind (wpAny_typeOf (typeIs_int s i t) (wpAny_bind (fl.here ?_)))))
  simp only [ne, Bool.false_eq_true, if_false]
  refine wpAny_bind (wpAny_of_eq fills ?_)
  simp only [Bool.and_self, if_true]
  refine wpAny_bind (sb.here ?_)
  simp only [Bool.false_eq_true, if_false, pure_bind, Bool.not_false, Bool.and_self, if_true]
  refine wpAny_bind (py.here ?_)
  simp only [if_true, np, pure_bind, Bool.not_false]
  refine wpAny_bind (lr.here ?_)
  refine wpAny_bind (wpAny_mono tr (fun r s' z => ?_) fun _ _ z => z)
  obtain ⟨v, rfl, z⟩ := z
  exact wpAny_pure z
theorem none_any {M : Model} {h : Heap} {i' : Str} {g' : Value → Option Value → Sem Bool} (X : K.In h) (z : ∀ c, g' c none = pure false) : ∀ {cs : List Value}, (∀ c ∈ cs, PySem.W.findIn K c i' = some none) →
    PySem.W.Looks M h (cs.anyM fun c => typeLookup c i' >>= g' c) false
  | [], _ => .of_pure rfl
  | c :: cs, a => fun A Q E s k q => by
    rw [List.anyM_cons]
    refine wpAny_bind (wpAny_bind ((PySem.W.looks_findIn X (a c (.head _))) A _ E s k ?_))
    rw [z c]
    refine wpAny_pure ?_
    simp only [Bool.false_eq_true, if_false]
    exact none_any X z (fun c' m => a c' (.tail _ m)) A Q E s k q
/-- a class that has no in-place form of an operator -/
theorem no_inp {M : Model} {h : Heap} {cd : ClassData} {nm : String} {add : Bool} (X : K.In h) (hc : PySem.W.clsIn K C = some cd) (hn : ∀ c ∈ cd.mro, PySem.W.findIn K c (dunderI nm) = some none) : PySem.W.Looks M h (fillsInplaceSlot (.ref C) nm add) false := fun A Q E s k q => by
  have Lm : PySem.W.Looks M h (mroOf (.ref C)) cd.mro := (PySem.W.looks_clsIn X hc).andThen (f := fun cd => pure cd.mro) .now
  unfold fillsInplaceSlot
  exact wpAny_bind (Lm A _ E s k (none_any X (fun _ => rfl) hn A Q E s k q))
/-- o op= i where the class has the operator and no in-place form of it -/
theorem inp_side {Q : Value → Shared → Prop} {cd : ClassData} {rc ro : Option Value} (X : K.In s.heap) (I : PySem.W.InstAt s.heap x (PySem.W.instObj C dx) C od) (hc : PySem.W.selfFirst K C = true) (hd : PySem.W.clsIn K C = some cd) (hn : ∀ c ∈ cd.mro, PySem.W.findIn K c (dunderI op.info.2) = some none)
    (hs : PySem.W.findIn K (.ref C) (PySem.dunder op.info.2) = some (some (.ref f))) (hf : PySem.W.isFn K (.ref f) = true) (hr : PySem.W.findIn K (.ref C) (dunderR op.info.2) = some rc) (hp : rc = none ∨ ∃ b : Addr, rc = some (.ref b))
    (hsub : PySem.W.subIn K (.type "int") (.ref C) = some false) (fills : fillsNumberSlot (.type "int") op.info.2 = pure true) (hi : PySem.W.findIn K (.type "int") (dunderR op.info.2) = some ro)
    (q : wpAny (model prog w) A (call (.ref f) [.ref x, .int i t]) (PySem.W.CmpBack Q) E s) : wpAny (model prog w) A (inplaceOp op (.ref x) (.int i t)) Q E s := by
  have tx := I.type (M := model prog w)
  have nf := no_inp (M := model prog w) (nm := op.info.2) (add := op == .Add) X hd hn
  unfold inplaceOp
  refine wpAny_holding (wpAny_bind (tx.here (wpAny_bind (nf.here ?_))))
  simp only [Bool.false_eq_true, if_false, pure_bind]
  refine wpAny_bind (fore_side X I hc hs hf hr hp hsub fills hi (wpAny_mono q (fun v s' z => ?_) fun _ _ z => z))
  cases v <;> first | exact z.elim | exact wpAny_pure z
end
section
variable {X : Cx} {CX : CXT} {k : Nat} {f g C : Addr} {fd : FuncData} {ps : List Str} {sp : Sp} {E : XK} {op : Operator} {idl : String}
/-- i op o, i a whole number, o an own object -/
def rBackI (C : Addr) (sp : Sp) (E : XK) : R2 := fun x y H Q => ∃ (a dx : Addr) (fs : List (Str × V)) (i : Int), y = .ref a ∧ H a = some (.ins C dx fs) ∧ x = .int i ∧ sp [.ref a, .int i] H Q E
/-- what the class has for an operator from behind -/
structure BackAt (K : PySem.W.Frag) (C f g : Addr) (op : Operator) (idl : String) : Prop where
  first : PySem.W.selfFirst K C = true
  own : PySem.W.findIn K (.ref C) (PySem.dunder op.info.2) = some (some (.ref f))
  back : PySem.W.findIn K (.ref C) (dunderR op.info.2) = some (some (.ref g))
  fn : PySem.W.isFn K (.ref g) = true
  sub : PySem.W.subIn K (.ref C) (.type "int") = some false
  fills : fillsNumberSlot (.type "int") op.info.2 = pure true
  nay : Nay op idl
/-- what the class has for an in-place form -/
structure InAt (K : PySem.W.Frag) (C f : Addr) (op : Operator) : Prop extends OpAt K C f op where
  none_ : ∃ cd, PySem.W.clsIn K C = some cd ∧ ∀ c ∈ cd.mro, PySem.W.findIn K c (dunderI op.info.2) = some none
  fills : fillsNumberSlot (.type "int") op.info.2 = pure true
theorem op_backI (O : BackAt X.K C f g op idl) (F : Gd X.prog X.w X.K X.mg X.base CX k g fd ps sp) (rm : Room k X.A) (gd : X.A.guards = some []) (hb : Binds X.K fd ps []) (hx : Passes CX X E) : OpR X (binaryOp op) (rBackI C sp E) := by
  intro pins s σ H x y v u Q I rx ry h
  obtain ⟨a, dx, fs, i, rfl, ea, rfl, q⟩ := h
  obtain ⟨t, rfl⟩ := rx
  obtain rfl : u = Value.ref a := ry
  obtain ⟨mA, J, _⟩ := ins_get I.hok ea
  obtain ⟨od, J, _⟩ := J.look
  have r2 : Vals [V.ref a, .int i] [Value.ref a, .int i t] := .cons rfl (.cons ⟨t, rfl⟩ .nil)
  have bt := bind_pos (dvs := []) (vs := [V.ref a, .int i]) F hb .nil I.kIn r2 q
  refine back_side I.kIn J O.first O.own O.back O.fn O.sub O.fills O.nay ?_
  refine wpAny_mono (run_g (us := [.ref a, .int i t]) F rm gd hx I bt r2 q) (fun v s' hv => ?_) fun _ _ z => z
  have rv : ∃ z, RelV z v := let ⟨z, _, _, rz, _⟩ := hv; ⟨z, rz⟩
  exact rv.elim fun z rz => SlX.cmpback rz hv
theorem op_inI (O : InAt X.K C f op) (F : Gd X.prog X.w X.K X.mg X.base CX k f fd ps sp) (rm : Room k X.A) (gd : X.A.guards = some []) (hb : Binds X.K fd ps []) (hx : Passes CX X E) : OpR X (inplaceOp op) (rOwnI C sp E) := by
  intro pins s σ H x y v u Q I rx ry h
  obtain ⟨a, dx, fs, i, rfl, ea, rfl, q⟩ := h
  obtain rfl : v = Value.ref a := rx
  obtain ⟨t, rfl⟩ := ry
  obtain ⟨mA, J, _⟩ := ins_get I.hok ea
  obtain ⟨od, J, _⟩ := J.look
  obtain ⟨rc, hr, hp⟩ := O.refl
  obtain ⟨ro, h2⟩ := O.int2
  obtain ⟨cd, hc, hn⟩ := O.none_
  have r2 : Vals [V.ref a, .int i] [Value.ref a, .int i t] := .cons rfl (.cons ⟨t, rfl⟩ .nil)
  have bt := bind_pos (dvs := []) (vs := [V.ref a, .int i]) F hb .nil I.kIn r2 q
  refine inp_side I.kIn J O.first hc hn O.own O.fn hr hp O.sub O.fills h2 ?_
  refine wpAny_mono (run_g (us := [.ref a, .int i t]) F rm gd hx I bt r2 q) (fun v s' hv => ?_) fun _ _ z => z
  have rv : ∃ z, RelV z v := let ⟨z, _, _, rz, _⟩ := hv; ⟨z, rz⟩
  exact rv.elim fun z rz => SlX.cmpback rz hv
/-- ~o, o an own object -/
def rInvO (C : Addr) (sp : Sp) (E : XK) : V → Hp → VK → Prop := fun x H Q => ∃ (a dx : Addr) (fs : List (Str × V)), x = .ref a ∧ H a = some (.ins C dx fs) ∧ sp [.ref a] H Q E
theorem un_inv (O : PySem.W.findIn X.K (.ref C) "__invert__" = some (some (.ref f))) (fn : PySem.W.isFn X.K (.ref f) = true) (F : Gd X.prog X.w X.K X.mg X.base CX k f fd ps sp) (rm : Room k X.A) (gd : X.A.guards = some []) (hb : Binds X.K fd ps []) (hx : Passes CX X E) : UnR X (unaryOp .Invert) (rInvO C sp E) := by
  intro pins s σ H x v Q I rx h
  obtain ⟨a, dx, fs, rfl, ea, q⟩ := h
  obtain rfl : v = Value.ref a := rx
  obtain ⟨mA, J, _⟩ := ins_get I.hok ea
  obtain ⟨od, J, _⟩ := J.look
  obtain ⟨m, fr⟩ := I.fr
  have r2 : Vals [V.ref a] [Value.ref a] := .cons rfl .nil
  have bt := bind_pos (dvs := []) (vs := [V.ref a]) F hb .nil I.kIn r2 q
  exact PySem.W.ksp_inv fr I.ok.mod.kin J O fn (wpAny_mono (run_g (us := [.ref a]) F rm gd hx I bt r2 q) (fun v s' hv => hv) fun _ _ z => z)
theorem w_backO {a dx : Addr} {fs : List (Str × V)} {i : Int} {H : Hp} {Q : VK} (h : H a = some (.ins C dx fs)) (q : sp [.ref a, .int i] H Q E) : rBackI C sp E (.int i) (.ref a) H Q := ⟨a, dx, fs, i, rfl, h, rfl, q⟩
theorem w_invO {a dx : Addr} {fs : List (Str × V)} {H : Hp} {Q : VK} (h : H a = some (.ins C dx fs)) (q : sp [.ref a] H Q E) : rInvO C sp E (.ref a) H Q := ⟨a, dx, fs, rfl, h, q⟩
end
end KG

set_option Elab.async false
set_option linter.all false
set_option maxRecDepth 100000
set_option maxHeartbeats 1000000
/-! KQ: properties and classmethods whose defs are known where nothing is being shown. -/
namespace KG
open PySem PySem.Spec PySem.Calls PyProof.Rows L2
section
variable {X : Cx} {CX : CXT} {k : Nat} {C p g : Addr} {mc : Value} {fd : FuncData} {ps : List Str} {sp : Sp} {E : XK} {o e : Expr} {es : List Expr} {m : Str} {pos apos : Pos} {ta : TE} {t : TA}
/-- o.m, a property -/
theorem pe_gprop (he : PE X o ta) (c : Cls X.K C) (P : PropOf X.K C m p g) (F : Gd X.prog X.w X.K X.mg X.base CX k g fd ps sp) (rm : Room (k + 1) X.A) (gd : X.A.guards = some []) (hb : Binds X.K fd ps []) (hx : Passes CX X.nox E)
    (ab : attributeBase o m X.env (eval o X.env) = eval o X.env := by rfl) : PE X (.Attribute o m pos) (tProp C sp [] E ta) := by
  refine ⟨fun pins s σ H Q I z => attr_of ab (thn (he.run pins s σ H _ I z) fun u s1 z1 => ?_)⟩
  obtain ⟨_, H1, J, ru, a, dx, fs, rfl, ea, q⟩ := z1
  obtain rfl : u = Value.ref a := ru
  obtain ⟨mA, O, _⟩ := ins_get J.hok ea
  obtain ⟨od, O, _⟩ := O.look
  obtain ⟨tail, isP⟩ := P.rec_
  have isC : (PySem.W.clsIn X.K C).isSome = true := let ⟨_, w, _⟩ := PySem.W.any_some c.hd; w ▸ rfl
  have J1 := J.tok (s1.toks + 1)
  have pg := PySem.W.plainGet_of (c.get m)
  refine PySem.W.get_bind J.kIn O pg.1 (PySem.W.findObj_data isC P.at_ P.get P.tak) pg.2 (wpAny_call (PySem.W.prop_get (s := { s1 with toks := s1.toks + 1 }) J.kIn isP ?_))
  have r1 : Vals [V.ref a] [Value.ref a] := .cons rfl .nil
  have bt := bind_pos (dvs := []) (vs := [V.ref a]) F hb .nil J1.kIn r1 q
  refine codeAny_mono (F.go X.A.in1 X.stack { s1 with toks := s1.toks + 1 } H1 ⟨[.ref a], []⟩ _ _ Q E rm.in1 gd J1.env0.in1 bt r1 q) fun out s2 z2 => ?_
  match out, z2 with
  | .error er, z2 => exact (hx pins σ H1 { s1 with toks := s1.toks + 1 } er s2 (J1.wish _) z2).elim
  | .ok (.ret u), z2 =>
    obtain ⟨v, H2, J2, rv, q2⟩ := J1.after z2
    show wpAny _ _ (handedOut u) _ _ _
    rw [PySem.W.handedOut_of (handed_of rv)]
    exact wpAny_pure ⟨v, H2, J2, rv, q2⟩
/-- o.m(e, ..), o the class, m a classmethod -/
theorem pe_gcm {pl : Sem Bool} (he : PE X o ta) (r : ClX.CRead X.K C mc) (c : ClX.CMet X.K C mc m p g) (F : Gd X.prog X.w X.K X.mg X.base CX k g fd ps sp) (rm : Room k X.A) (gd : X.A.guards = some []) (hb : Binds X.K fd ps []) (hx : Passes CX X E) (ha : PA X (e :: es) t)
    (hst : starEach (e :: es) X.env = (false, eval e X.env) :: starEach es X.env := by rfl) (hpl : (backTo pos (starEach es X.env)).any (·.1) = false := by rfl)
    (ht : eval (.Call (.Attribute o m apos) (e :: es) [] pos) X.env = (do
      let w ← eval o X.env
      standAt apos.atName
      let (g, a) ← holding [w] (getMethod w m pl)
      callWith pos g a (backTo pos (starEach (e :: es) X.env)) (backToKw pos (keywordEach [] X.env))) := by rfl) :
    PE X (.Call (.Attribute o m apos) (e :: es) [] pos) (ClX.tCMeth C sp E ta t) := by
  refine ⟨fun pins s σ H Q I z => PySem.W.methodCall_KW (pl := pl) (thn (he.run pins s σ H _ I z) fun u s1 z1 => ?_) ht⟩
  obtain ⟨_, H1, J, ru, rfl, q⟩ := z1
  obtain rfl : u = Value.ref C := ru
  refine ClX.getmethcm_ok J r c fun s2 J2 => ClX.callwith_cm J2 (ClX.base_none J (Nat.le_refl _)) c.fi (thn (ha.run pos _ s2 σ H1 _ J2 q) fun us s3 z3 => ?_) hst hpl
  obtain ⟨vs, H2, J3, rv, q2⟩ := z3
  have r1 : Vals (V.ref C :: vs) (Value.ref C :: us) := .cons rfl rv
  have bt := bind_pos (dvs := []) (vs := V.ref C :: vs) F hb .nil J3.kIn r1 (by rw [List.append_nil]; exact q2)
  refine ⟨⟨ClX.pin_at J3, J3.kIn⟩, ?_⟩
  have run : wpAny (model X.prog X.w) X.A (call (.ref s1.heap.objs.size) us) (EP X ((s1.heap.objs.size, PySem.W.methodObj (.ref g) (.ref C)) :: pins) σ Q) X.xe s3 := by
    refine wpAny_call (PySem.W.method_call (ClX.pin_at J3) (codeAny_mono (F.go X.A X.stack s3 H2 ⟨.ref C :: us, []⟩ _ _ _ E rm gd J3.env0 bt (by rw [List.append_nil]; exact r1) q2) fun out s4 z4 => ?_))
    match out, z4 with
    | .error er, z4 => exact hx _ σ H2 s3 er s4 J3 z4
    | .ok (.ret v), z4 => exact J3.after z4
  exact thn run fun _ _ y => ClX.unpinE y
/-- x(e, ..), x a place that holds the class -/
def tMakeV (C : Addr) (sp : Sp) (dvs : List V) (E : XK) (n : Nat) (ta : TA) : TE := fun σ H Q => σ[n]? = some (some (.ref C)) ∧ ta σ H fun vs H1 => Make C sp (fun z => z :: (vs ++ dvs)) E H1 Q
theorem pe_gmakeV {f : Addr} {x : Str} {n : Nat} {ds : List Value} {dvs : List V} (M : Mk X.K C f) (F : Gd X.prog X.w X.K X.mg X.base CX k f fd ps sp) (rm : Room (k + 1) X.A) (gd : X.A.guards = some []) (hv : PE X (.Name x apos) (tVar n)) (hb : Binds X.K fd ps ds) (hd : Vals dvs ds) (hx : Passes CX X E) (ha : PA X (e :: es) t)
    (hst : starEach (e :: es) X.env = (false, eval e X.env) :: starEach es X.env := by rfl) (hpl : (backTo pos (starEach es X.env)).any (·.1) = false := by rfl) : PE X (.Call (.Name x apos) (e :: es) [] pos) (tMakeV C sp dvs E n t) := by
  refine ⟨fun pins s σ H Q I z => ?_⟩
  obtain ⟨ec, q⟩ := z
  refine wpAny_Call_Name_kw (thn (hv.run pins s σ H (fun v H' => v = .ref C ∧ t σ H' fun vs H1 => Make C sp (fun z => z :: (vs ++ dvs)) E H1 Q) I ⟨_, ec, rfl, q⟩) fun u s1 z1 => ?_)
  obtain ⟨_, H1, J, ru, rfl, q1⟩ := z1
  obtain rfl : u = Value.ref C := ru
  refine PySem.W.callWith_K (h₀ := X.base) I.ok.mod.kin M.kp (thn (ha.run pos pins s1 σ H1 _ J q1) fun us s2 z2 => ?_) hst hpl
  obtain ⟨vs, H2, J2, rv, q2⟩ := z2
  have all : ∀ y : Addr, Vals (V.ref y :: vs ++ dvs) (Value.ref y :: us ++ ds) := fun y => .cons rfl (rv.append hd)
  have many : ∀ y : Addr, (Value.ref y :: us ++ ds).length = ps.length := fun y => by
    rw [← (all y).length, ← F.len _ _ _ _ (q2 (s2.heap.objs.size + 1) s2.heap.objs.size (J2.hok.fresh (Nat.le_succ _)) (J2.hok.fresh (Nat.le_refl _)) (Nat.ne_of_lt (Nat.lt_succ_self _)))]
    rfl
  exact ⟨J2.kIn, run_gmake (fun y => y :: us ++ ds) (fun y => y :: vs ++ dvs) M F rm gd (fun s y KX => hb s (.ref y :: us) KX (many y)) all hx J2 q2⟩
end
end KG

set_option Elab.async false
set_option linter.all false
set_option maxRecDepth 100000
set_option maxHeartbeats 1000000
/-! KU: methods whose text says super().m(..). -/
namespace KG
open PySem PySem.Spec PySem.Calls PyProof.Rows L2
open PySem.W (ksFn ksEnv)

/-- the scope of a method that says super() -/
structure ScS (N ps : List Str) (sc : Scope) : Prop where
  kind : sc.kind = .function
  co : sc.isCoroutine = false
  gen : sc.isGenerator = false
  pre : N.take ps.length = ps
  nd : ps.Nodup
  par : ∀ x ∈ ps, sc.names.lookup x = some .local
  nocell : ∀ y ∈ sc.names, y.2 ≠ .cell
  free : ∀ y ∈ sc.names, y.2 = .free → y.1 = ("__class__" : Str)
  sup : sc.names.lookup ("super" : Str) = some .globalImplicit
  cl : sc.names.lookup ("__class__" : Str) = some .free

/-- what is written of such a method: where its code lies, its class -/
structure SupF (prog : Program) (K : PySem.W.Frag) (f D : Addr) (cda cc : Addr) (fd : FuncData) : Prop where
  lkF : ∃ oc od osl, K.lookup f = some ⟨oc, od, .func fd, osl⟩
  lkC : ∃ (ccl : Value) (cdd : Option Addr) (vs : Array Value) (ccs : Array (Option Value)) (file : Str) (tf : Tok), K.lookup cda = some ⟨ccl, cdd, .fields vs, ccs⟩ ∧ vs[2]? = some (.str file tf) ∧ ((prog.main.file : Str) == file) = true
  lkCell : ∃ (cl : Value) (cld : Option Addr) (csl : Array (Option Value)), K.lookup cc = some ⟨cl, cld, .cell (some (.ref D)), csl⟩
  cls : ∃ cd, PySem.W.clsIn K D = some cd
  opq : PySem.W.nsIn K cStatics "thirdparty.any" = some none
  nosup : PySem.W.nsIn K mainGlobals "super" = some none
  top : (prog.main.scope.names.lookup ("super" : Str)).isSome = false
structure FunS (prog : Program) (K : PySem.W.Frag) (x qual : Str) (st : Stmt) (f D : Addr) (fd : FuncData) : Prop where
  ex : ∃ (dV kV doc pm ct : Value) (an : Option Addr) (cda cc : Addr), fd = ksFn x qual (defArgs st) (defBody st) (defScope st) dV kV doc pm an (.ref cda) ct cc ∧ PySem.W.codeIn K (.ref cda) qual = true ∧ SupF prog K f D cda cc fd
  kp : PySem.W.keepIn K (.ref f) = true

/-- the frame of such a method -/
def cxS (P : Program) (w : World) (K : PySem.W.Frag) (mg : Str → Option Value) (base : Heap) (N : List Str) (qual : Str) (scope : Scope) (f cda cc : Addr) (A : Around) (outer : List Env) (s : Shared) (H : Hp) (E : XK) : Cx :=
  { prog := P, w := w, K := K, mg := mg, base := base, A := A.deeper (ksEnv qual scope s.heap.objs.size f (.ref cda) cc), N := N, s_0 := s, H_0 := H,
    env := ksEnv qual scope s.heap.objs.size f (.ref cda) cc, outer := outer, stack := ksEnv qual scope s.heap.objs.size f (.ref cda) cc :: outer, ex := [], fn := fun x => !(x == ("__class__" : Str)), calm := true, pn := [],
    xe := fun e s' => wpAny (model P w) (A.deeper (ksEnv qual scope s.heap.objs.size f (.ref cda) cc)) (leaving (ksEnv qual scope s.heap.objs.size f (.ref cda) cc) e) (fun _ s'' => L2.CX P w outer H s E e s'') (fun e' s'' => L2.CX P w outer H s E e' s'') s' }
section
variable {P : Program} {w : World} {K : PySem.W.Frag} {mg : Str → Option Value} {base : Heap} {N ps : List Str} {qual : Str} {sc : Scope} {f cda cc D : Addr} {A : Around} {outer : List Env} {s s1 : Shared} {H : Hp} {E : XK}
theorem takes_S : Takes (cxS P w K mg base N qual sc f cda cc A outer s H E) (fun cls d _ H => E cls d H) := takes_of rfl rfl rfl rfl
theorem pass_S : Passes (L2.CX P w) (cxS P w K mg base N qual sc f cda cc A outer s H E) E := passes_call takes_S fun _ _ _ _ h => h
theorem own_S : PassesOwn (model P w) (cxS P w K mg base N qual sc f cda cc A outer s H E).A (cxS P w K mg base N qual sc f cda cc A outer s H E).env (cxS P w K mg base N qual sc f cda cc A outer s H E).xe := passes_of rfl

theorem paired_get {R : V → Value → Prop} : ∀ {vs : List V} {us : List Value} {i : Nat} {v : V}, Paired R vs us → vs[i]? = some v → ∃ u, us[i]? = some u ∧ R v u
  | _ :: _, _ :: _, 0, _, .cons a _, e => by cases e; exact ⟨_, rfl, a⟩
  | _ :: _, _ :: _, i + 1, _, .cons _ b, e => paired_get (i := i) b e
theorem lk_nd {x : Str} {u : Value} : ∀ {l : List (Str × Value)}, (l.map (·.1)).Nodup → (x, u) ∈ l → l.lookup x = some u
  | (y, v) :: t, nd, h => by
    rcases List.mem_cons.mp h with e | h
    · cases e
      simp [List.lookup]
    · have nd' : y ∉ t.map (·.1) ∧ (t.map (·.1)).Nodup := List.nodup_cons.mp nd
      have ne : x ≠ y := fun z => nd'.1 (z ▸ List.mem_map_of_mem (f := (·.1)) h)
      rw [List.lookup, beq_eq_false_iff_ne.mpr ne]
      exact lk_nd nd'.2 h
theorem lk_mem {k : NameKind} {x : Str} : ∀ {l : List (Str × NameKind)}, l.lookup x = some k → (x, k) ∈ l
  | (y, v) :: t, h => by
    by_cases e : x = y
    · subst e
      simp [List.lookup] at h
      rw [h]
      exact List.mem_cons_self
    · rw [List.lookup, beq_eq_false_iff_ne.mpr e] at h
      exact List.mem_cons_of_mem _ (lk_mem h)
theorem zip_get : ∀ {ps : List Str} {us : List Value} {i : Nat} {x : Str} {u : Value}, ps[i]? = some x → us[i]? = some u → (x, u) ∈ ps.zip us
  | _ :: _, _ :: _, 0, _, _, h, h' => by cases h; cases h'; exact List.mem_cons_self
  | _ :: _, _ :: _, i + 1, _, _, h, h' => List.mem_cons_of_mem _ (zip_get (i := i) h h')

theorem invS_start {us : List Value} {vs : List V} (S : ScS N ps sc) (hd : A.handled = none) (e0 : Env0 P w K mg base A outer s H) (len : vs.length = ps.length) (rv : Vals vs us)
    (hcc : ∃ (cl : Value) (cld : Option Addr) (csl : Array (Option Value)), K.lookup cc = some ⟨cl, cld, .cell (some (.ref D)), csl⟩)
    (ns : s1.heap.Ns s.heap.objs.size fun y => (ps.zip us).reverse.lookup y) (kp : ∀ b o, s.heap.get? b = some o → s1.heap.get? b = some o) (hos : s1.os = s.os) (hg : s1.gens = s.gens) :
    Inv (cxS P w K mg base N qual sc f cda cc A outer s H E) [] (start N vs) H s1 := by
  obtain ⟨cl, cld, csl, hcc⟩ := hcc
  have kb := e0.mod.kin _ _ hcc
  have fc : ∀ {x : Str} {c : Addr}, List.lookup x [(("__class__" : Str), cc)] = some c → x = "__class__" ∧ c = cc := fun {x c} h => by
    by_cases e : x = "__class__"
    · subst e
      simp [List.lookup] at h
      exact ⟨rfl, h.symm⟩
    · rw [List.lookup, beq_eq_false_iff_ne.mpr e] at h
      cases h
  refine ⟨?_, hos, by rw [hg]; exact e0.bare, Un.kept kp, ⟨_, ns, ?_⟩, ?_, e0.hok.fresh (Nat.le_refl _), ?_, (fun _ h => nomatch h), e0.hok.kept kp, ?_⟩
  · exact {
      mod := e0.mod
      kind := S.kind
      glob := rfl
      blt := rfl
      above := Nat.le_refl _
      inj := fun x y c h1 h2 => (fc h1).1.trans (fc h2).1.symm
      has := fun x h => by
        rcases h with h | h
        · exact absurd rfl (S.nocell (x, .cell) (lk_mem h))
        · rw [show x = _ from S.free _ (lk_mem h) rfl]
          exact ⟨cc, by simp [cxS, ksEnv, PySem.W.envX, List.lookup]⟩
      cab := fun x c h1 h2 => by
        rw [(fc h2).1] at h1
        cases h1
      hd := fun _ => hd
      frames := by
        show Option.map _ A.frames = _
        rw [e0.frames]
        rfl
      stk := .inr ⟨rfl, rfl⟩
      exf := fun _ h => nomatch h
      bs := e0.bs
      bsz := e0.bsz
      noex := fun _ _ _ h => nomatch h
      exfs := fun _ h => nomatch h
      funs := e0.funs
      frf := e0.frf }
  · intro i x v hx hs vis
    have hx : N[i]? = some x := hx
    have hv : vs[i]? = some v := by
      unfold L2.start at hs
      by_cases lt : i < vs.length
      · rw [List.getElem?_append_left (by simpa using lt), List.getElem?_map] at hs
        obtain ⟨v', h1, h2⟩ := Option.map_eq_some_iff.mp hs
        cases h2
        exact h1
      · rw [List.getElem?_append_right (by simpa using lt), List.getElem?_replicate] at hs
        split at hs <;> cases hs
    obtain ⟨u, hu, ru⟩ := paired_get rv hv
    have lt : i < ps.length := len ▸ (List.getElem?_eq_some_iff.mp hv).1
    have hp : ps[i]? = some x := by
      rw [← S.pre, List.getElem?_take_of_lt lt]
      exact hx
    have lenU : ps.length ≤ us.length := by rw [← len, rv.length]; exact Nat.le_refl _
    refine ⟨u, ru, .inl ⟨S.par x (List.mem_of_getElem? hp), ?_⟩⟩
    refine lk_nd ?_ (List.mem_reverse.mpr (zip_get hp hu))
    rw [List.map_reverse]
    refine List.pairwise_reverse.mpr ?_
    show ((ps.zip us).map Prod.fst).Pairwise _
    rw [List.map_fst_zip lenU]
    exact S.nd.imp Ne.symm
  · intro x c h
    rw [(fc h).2]
    exact ⟨_, _, kp _ _ (e0.bs _ _ kb).1, rfl⟩
  · intro x c h
    rw [(fc h).2]
    exact (e0.bs _ _ kb).2
  · show (List.map some vs ++ List.replicate (N.length - vs.length) none).length = N.length
    have : ps.length ≤ N.length := by
      rw [← S.pre, List.length_take]
      exact Nat.min_le_right _ _
    simp
    omega

/-- such a method by its body -/
theorem gdS_of {k : Nat} {x : Str} {st : Stmt} {fd : FuncData} {sp : Sp} (F : FunS P K x qual st f D fd) (S : ScS N ps (defScope st)) (len : ∀ vs H Q E, sp vs H Q E → vs.length = ps.length)
    (inner : ∀ (cda cc : Addr) (A : Around) (outer : List Env) (s s1 : Shared) (H : Hp) (vs : List V) (Q : VK) (E : XK),
      Room k (cxS P w K mg base N qual (defScope st) f cda cc A outer s H E).A → (cxS P w K mg base N qual (defScope st) f cda cc A outer s H E).A.guards = some [] → sp vs H Q E →
      (∃ (dV kV doc pm ct : Value) (an : Option Addr), SupF P K f D cda cc (ksFn x qual (defArgs st) (defBody st) (defScope st) dV kV doc pm an (.ref cda) ct cc)) →
      Inv (cxS P w K mg base N qual (defScope st) f cda cc A outer s H E) [] (start N vs) H s1 →
      PySem.wpAt (model P w) (cxS P w K mg base N qual (defScope st) f cda cc A outer s H E).A (.func (defBody st) (cxS P w K mg base N qual (defScope st) f cda cc A outer s H E).env) (execs (defBody st) (cxS P w K mg base N qual (defScope st) f cda cc A outer s H E).env)
        (SP (cxS P w K mg base N qual (defScope st) f cda cc A outer s H E) [] { nx := fun _ H' => Q .non H', rt := Q }) (cxS P w K mg base N qual (defScope st) f cda cc A outer s H E).xe s1) :
    Gd P w K mg base (L2.CX P w) (k + 1) f fd ps sp := by
  obtain ⟨dV, kV, doc, pm, ct, an, cda, cc, rfl, code, SF⟩ := F.ex
  refine ⟨len, fun A outer s H args us vs Q E rm gd e0 bt rv q0 => ?_⟩
  have llen := len _ _ _ _ q0
  have kin : K.In s.heap := e0.mod.kin.keeps fun b o e => (e0.bs b o e).1
  have nolim : s.heap.NoLimit := e0.mod.nolimit.keeps fun b o e => (e0.bs b o e).1
  obtain ⟨oc, od, osl, lkF⟩ := SF.lkF
  refine ks_codeAny_call_defAt (body := defBody st) (binds := ps.zip us) rm.depth (kin _ _ lkF) rfl nolim (PySem.W.codeRec_of kin code) rfl bt S.nocell (fun y hy => S.par _ (List.of_mem_zip hy).1) (fun h1 ns1 kp1 => ?_) S.co S.gen S.kind
  have I := invS_start (E := E) (cda := cda) (cc := cc) (f := f) (qual := qual) (s1 := ⟨h1, s.gens, s.drawn, s.toks + (ps.zip us).length, s.os⟩) S rm.hd e0 llen rv SF.lkCell ns1 kp1 rfl rfl
  refine ks_wpAt_mono (inner cda cc A outer s _ H vs Q E (rm.deeper _) gd q0 ⟨dV, kV, doc, pm, ct, an, SF⟩ I) (fun fl s' hs => ?_) fun e s' hs => hs
  have done : ∀ {σ' : L2.St} {H' : Hp} {v : V} {u : Value}, Inv (cxS P w K mg base N qual (defScope st) f cda cc A outer s H E) [] σ' H' s' → RelV v u → Q v H' → CE outer P w H s Q u s' :=
    fun {σ' H' v u} J r q => ⟨v, H', J.os, J.bare, J.base, J.hok, r, q⟩
  cases fl with
  | ret u =>
    obtain ⟨v, σ', H', J, r, q⟩ := hs
    exact done J r q
  | next =>
    obtain ⟨σ', H', J, q⟩ := hs
    exact done (v := V.non) (u := Value.none) J rfl q
  | brk => exact hs.elim fun _ h => h.elim fun _ h => False.elim h.2
  | cont => exact hs.elim fun _ h => h.elim fun _ h => False.elim h.2

/-- where super() of an object of class C, asked in a method of class D, finds m -/
structure UpAt (K : PySem.W.Frag) (C D : Addr) (m : Str) (g : Addr) : Prop where
  isub : PySem.W.mroIn K C (.ref D) = some true
  up : PySem.W.ks_superIn K C D m = some (some (.ref g))
  fn : PySem.W.isFn K (.ref g) = true
  fi : PySem.W.fnIn K g = true

/-- super().m, up to the bound method -/
theorem sup_get {x : Str} {st : Stmt} {dV kV doc pm ct : Value} {an : Option Addr} {s0 : Shared} {H0 : Hp} {pins : List (Addr × Obj)} {σ : L2.St} {H1 : Hp} {s : Shared} {C dx a g : Addr} {fs : List (Str × V)} {m : Str} {p0 p1 p2 p3 : Pos} {es : List Expr} {pl : Sem Bool} {EX : Value → Shared → Prop} {body : List Stmt} {R : Value → Shared → Prop}
    (S : ScS N ps sc) (SF : SupF P K f D cda cc (ksFn x qual (defArgs st) (defBody st) sc dV kV doc pm an (.ref cda) ct cc)) (hpar : ((defArgs st).posonlyargs ++ (defArgs st).args).head?.map (·.arg) = some ("self" : Str))
    (hN : N[0]? = some ("self" : Str)) (hself : sc.names.lookup ("self" : Str) = some .local) (hm : (m == ("__class__" : Str)) = false)
    (hev : eval (.Call (.Attribute (.Call (.Name "super" p0) [] [] p1) m p2) es [] p3) (cxS P w K mg base N qual sc f cda cc A outer s0 H0 E).env = (do
      let ov ← attributeBase (.Call (.Name "super" p0) [] [] p1) m (cxS P w K mg base N qual sc f cda cc A outer s0 H0 E).env (eval (.Call (.Name "super" p0) [] [] p1) (cxS P w K mg base N qual sc f cda cc A outer s0 H0 E).env)
      standAt p2.atName
      let (fv, first) ← holding [ov] (getMethod ov m pl)
      callWith p3 fv first (backTo p3 (starEach es (cxS P w K mg base N qual sc f cda cc A outer s0 H0 E).env)) []))
    (I : Inv (cxS P w K mg base N qual sc f cda cc A outer s0 H0 E) pins σ H1 s) (hσ : σ[0]? = some (some (.ref a))) (ha : H1 a = some (.ins C dx fs)) (U : UpAt K C D m g)
    (nx : ∀ (q : Addr) (s2 : Shared), base.get? q = none → Inv (cxS P w K mg base N qual sc f cda cc A outer s0 H0 E) ((q, PySem.W.methodObj (.ref g) (.ref a)) :: pins) σ H1 s2 →
      wpAny (model P w) (cxS P w K mg base N qual sc f cda cc A outer s0 H0 E).A (callWith p3 (.ref q) [] (backTo p3 (starEach es (cxS P w K mg base N qual sc f cda cc A outer s0 H0 E).env)) []) R EX s2) :
    PySem.wpAt (model P w) (cxS P w K mg base N qual sc f cda cc A outer s0 H0 E).A (.func body (cxS P w K mg base N qual sc f cda cc A outer s0 H0 E).env)
      (eval (.Call (.Attribute (.Call (.Name "super" p0) [] [] p1) m p2) es [] p3) (cxS P w K mg base N qual sc f cda cc A outer s0 H0 E).env) R EX s := by
  obtain ⟨oc, od, osl, lkF⟩ := SF.lkF
  obtain ⟨ccl, cdd, vs, ccs, file, tf, lkC, hvs, hfile⟩ := SF.lkC
  obtain ⟨cl, cld, csl, lkCell⟩ := SF.lkCell
  obtain ⟨cd, hcd⟩ := SF.cls
  have kin : K.In s.heap := I.kIn
  have mod := I.mod
  obtain ⟨mb, nsb0, mbb⟩ := mod.blt
  have nsm := mod.glob.keeps I.bk
  have nsb := nsb0.keeps I.bk
  obtain ⟨ar, har, harg⟩ : ∃ ar, ((defArgs st).posonlyargs ++ (defArgs st).args).head? = some ar ∧ ar.arg = ("self" : Str) := by
    cases z : ((defArgs st).posonlyargs ++ (defArgs st).args).head? with
    | none => rw [z] at hpar; cases hpar
    | some ar => rw [z] at hpar; exact ⟨ar, rfl, Option.some.inj hpar⟩
  obtain ⟨oD, hD, hDd⟩ : ∃ oD, K.lookup D = some oD ∧ oD.data = .cls cd := by
    unfold PySem.W.clsIn at hcd
    split at hcd
    · rename_i e
      cases hcd
      exact ⟨_, e, rfl⟩
    · cases hcd
  obtain ⟨mA, O, _⟩ := ins_get I.hok ha
  obtain ⟨odx, O, _⟩ := O.look
  refine ks_wpAt_MethodCall (ks_wpAt_super_base S.sup S.cl hm rfl (kin _ _ lkF) rfl har rfl (kin _ _ lkC) rfl hvs hfile SF.top ?_) hev
  refine PySem.W.ks_loadName_global S.kind S.sup (loadGlobal_builtin nsm (PySem.W.mg_none_of kin nsm SF.nosup) nsb ((mbb _ (by decide +kernel)).trans (by decide +kernel)) ⟨rfl, ?_⟩)
  refine wpAny_loadName_free S.kind S.cl rfl ⟨_, kin _ _ lkCell, rfl⟩ ?_
  rw [harg]
  obtain ⟨mm, nsL, hl⟩ := I.loc
  obtain ⟨u, ru, lk⟩ := hl 0 "self" (.ref a) hN hσ (.inl hself)
  obtain rfl : u = Value.ref a := ru
  have lk : mm "self" = some (.ref a) := by
    rcases lk with lk | ⟨lk, _⟩
    · exact lk.2
    · exfalso
      have hs : Env.kindOf (cxS P w K mg base N qual sc f cda cc A outer s0 H0 E).env "self" = some .local := hself
      rw [hs] at lk
      rcases lk with lk | lk <;> cases lk
  refine wpAny_loadName_local S.kind hself nsL lk ?_
  have hD1 := kin _ _ hD
  refine ks_wpAny_isType_cls hD1 hDd ⟨rfl, ?_⟩
  refine ks_wpAny_call_super hD1 hDd O.at_ O.cls (fun c z => by have := O.no; unfold PySem.W.notCls at this; rw [z] at this; cases this) (PySem.W.looks_mroIn kin U.isub) (fun h2 eso kp2 => ?_)
  have J2 := I.kept (t' := s.toks) kp2
  have kin2 : K.In h2 := kin.keeps kp2
  have sup := U.up
  unfold PySem.W.ks_superIn at sup
  obtain ⟨cdC, hcl, sup⟩ := Option.bind_eq_some_iff.mp sup
  obtain ⟨og, hog, hgc⟩ : ∃ og, K.lookup g = some og ∧ og.cls = .type "function" := by
    have hg : (Option.map (fun x => Obj.cls x) (K.lookup g) == some (.type "function")) = true := U.fn
    cases z : K.lookup g with
    | none => rw [z] at hg; cases hg
    | some og =>
      rw [z] at hg
      exact ⟨og, rfl, by simpa using hg⟩
  have nC : a ≠ C := fun z => by
    have hC : ∃ o, K.lookup C = some o := by
      unfold PySem.W.clsIn at hcl
      split at hcl
      · exact ⟨_, by assumption⟩
      · cases hcl
    obtain ⟨o, hC⟩ := hC
    have := (I.bs _ _ (I.ok.mod.kin _ _ hC)).2
    rw [← z, ha] at this
    cases this
  refine ks_wpAny_getMethod_super eso (PySem.W.looks_opaque kin2 SF.opq) (l₀ := cdC.mro) (fun A Q E s k q => wpAny_bind ((PySem.W.looks_clsIn kin2 hcl) A _ E s k (wpAny_pure q))) rfl kin2 sup (kin2 _ _ hog) hgc nC hm ?_
  exact nx _ _ (ClX.base_none J2 (Nat.le_refl _)) (ClX.met_new (g := g) (C := a) J2)

section
variable {x : Str} {st : Stmt} {dV kV doc pm ct : Value} {an : Option Addr} {s0 : Shared} {H0 : Hp} {pins : List (Addr × Obj)} {σ : L2.St} {H1 : Hp} {s : Shared} {C dx a g : Addr} {fs : List (Str × V)} {m : Str} {p0 p1 p2 p3 : Pos} {es : List Expr} {pl : Sem Bool} {body : List Stmt} {k : Nat} {fdg : FuncData} {psg : List Str} {sp : Sp} {Q : VK} {e : Expr} {t : TA}
/-- super().m() -/
theorem sup_run0 
    (S : ScS N ps sc) (SF : SupF P K f D cda cc (ksFn x qual (defArgs st) (defBody st) sc dV kV doc pm an (.ref cda) ct cc)) (hpar : ((defArgs st).posonlyargs ++ (defArgs st).args).head?.map (·.arg) = some ("self" : Str))
    (hN : N[0]? = some ("self" : Str)) (hself : sc.names.lookup ("self" : Str) = some .local) (hm : (m == ("__class__" : Str)) = false)
    (I : Inv (cxS P w K mg base N qual sc f cda cc A outer s0 H0 E) pins σ H1 s) (hσ : σ[0]? = some (some (.ref a))) (ha : H1 a = some (.ins C dx fs)) (U : UpAt K C D m g)
    (G : Gd P w K mg base (L2.CX P w) k g fdg psg sp) (hb : Binds K fdg psg []) (rm : Room k (cxS P w K mg base N qual sc f cda cc A outer s0 H0 E).A) (gd : (cxS P w K mg base N qual sc f cda cc A outer s0 H0 E).A.guards = some [])
    (q : sp [.ref a] H1 Q E)
    (hev : eval (.Call (.Attribute (.Call (.Name "super" p0) [] [] p1) m p2) [] [] p3) (cxS P w K mg base N qual sc f cda cc A outer s0 H0 E).env = (do
      let ov ← attributeBase (.Call (.Name "super" p0) [] [] p1) m (cxS P w K mg base N qual sc f cda cc A outer s0 H0 E).env (eval (.Call (.Name "super" p0) [] [] p1) (cxS P w K mg base N qual sc f cda cc A outer s0 H0 E).env)
      standAt p2.atName
      let (fv, first) ← holding [ov] (getMethod ov m pl)
      callWith p3 fv first (backTo p3 (starEach [] (cxS P w K mg base N qual sc f cda cc A outer s0 H0 E).env)) []) := by rfl) :
    PySem.wpAt (model P w) (cxS P w K mg base N qual sc f cda cc A outer s0 H0 E).A (.func body (cxS P w K mg base N qual sc f cda cc A outer s0 H0 E).env)
      (eval (.Call (.Attribute (.Call (.Name "super" p0) [] [] p1) m p2) [] [] p3) (cxS P w K mg base N qual sc f cda cc A outer s0 H0 E).env) (EP (cxS P w K mg base N qual sc f cda cc A outer s0 H0 E) pins σ Q) (cxS P w K mg base N qual sc f cda cc A outer s0 H0 E).xe s := by
  refine sup_get S SF hpar hN hself hm hev I hσ ha U fun q2 s2 bn J => PySem.W.callWith_M0 ⟨ClX.pin_at J, J.kIn⟩ U.fi ?_
  have r1 : Vals [V.ref a] [Value.ref a] := .cons rfl .nil
  have bt := bind_pos (dvs := []) (vs := [V.ref a]) G hb .nil J.kIn r1 q
  refine thn (Q := EP _ ((q2, PySem.W.methodObj (.ref g) (.ref a)) :: pins) σ Q) (wpAny_call (PySem.W.method_call (ClX.pin_at J) (codeAny_mono (G.go _ (ksEnv qual sc s0.heap.objs.size f (.ref cda) cc :: outer) s2 H1 ⟨[.ref a], []⟩ _ _ Q E rm gd J.env0 bt r1 q) fun out s4 z4 => ?_))) fun _ _ y => ClX.unpinE y
  match out, z4 with
  | .error er, z4 => exact pass_S _ σ H1 s2 er s4 J z4
  | .ok (.ret v), z4 => exact J.after z4
/-- super().m(e, ..) -/
theorem sup_run
    (S : ScS N ps sc) (SF : SupF P K f D cda cc (ksFn x qual (defArgs st) (defBody st) sc dV kV doc pm an (.ref cda) ct cc)) (hpar : ((defArgs st).posonlyargs ++ (defArgs st).args).head?.map (·.arg) = some ("self" : Str))
    (hN : N[0]? = some ("self" : Str)) (hself : sc.names.lookup ("self" : Str) = some .local) (hm : (m == ("__class__" : Str)) = false)
    (I : Inv (cxS P w K mg base N qual sc f cda cc A outer s0 H0 E) pins σ H1 s) (hσ : σ[0]? = some (some (.ref a))) (ha : H1 a = some (.ins C dx fs)) (U : UpAt K C D m g)
    (G : Gd P w K mg base (L2.CX P w) k g fdg psg sp) (hb : Binds K fdg psg []) (rm : Room k (cxS P w K mg base N qual sc f cda cc A outer s0 H0 E).A) (gd : (cxS P w K mg base N qual sc f cda cc A outer s0 H0 E).A.guards = some [])
    (hA : PA (cxS P w K mg base N qual sc f cda cc A outer s0 H0 E) (e :: es) t) (q : t σ H1 fun vs H2 => sp (.ref a :: vs) H2 Q E)
    (hst : starEach (e :: es) (cxS P w K mg base N qual sc f cda cc A outer s0 H0 E).env = (false, eval e (cxS P w K mg base N qual sc f cda cc A outer s0 H0 E).env) :: starEach es (cxS P w K mg base N qual sc f cda cc A outer s0 H0 E).env := by rfl)
    (hpl : (backTo p3 (starEach es (cxS P w K mg base N qual sc f cda cc A outer s0 H0 E).env)).any (·.1) = false := by rfl)
    (hev : eval (.Call (.Attribute (.Call (.Name "super" p0) [] [] p1) m p2) (e :: es) [] p3) (cxS P w K mg base N qual sc f cda cc A outer s0 H0 E).env = (do
      let ov ← attributeBase (.Call (.Name "super" p0) [] [] p1) m (cxS P w K mg base N qual sc f cda cc A outer s0 H0 E).env (eval (.Call (.Name "super" p0) [] [] p1) (cxS P w K mg base N qual sc f cda cc A outer s0 H0 E).env)
      standAt p2.atName
      let (fv, first) ← holding [ov] (getMethod ov m pl)
      callWith p3 fv first (backTo p3 (starEach (e :: es) (cxS P w K mg base N qual sc f cda cc A outer s0 H0 E).env)) []) := by rfl) :
    PySem.wpAt (model P w) (cxS P w K mg base N qual sc f cda cc A outer s0 H0 E).A (.func body (cxS P w K mg base N qual sc f cda cc A outer s0 H0 E).env)
      (eval (.Call (.Attribute (.Call (.Name "super" p0) [] [] p1) m p2) (e :: es) [] p3) (cxS P w K mg base N qual sc f cda cc A outer s0 H0 E).env) (EP (cxS P w K mg base N qual sc f cda cc A outer s0 H0 E) pins σ Q) (cxS P w K mg base N qual sc f cda cc A outer s0 H0 E).xe s := by
  refine sup_get S SF hpar hN hself hm hev I hσ ha U fun q2 s2 bn J => ClX.callwith_cm J bn U.fi (thn (hA.run p3 _ s2 σ H1 _ J q) fun us s3 z3 => ?_) hst hpl
  obtain ⟨vs, H2, J3, rv, q2'⟩ := z3
  have r1 : Vals (V.ref a :: vs) (Value.ref a :: us) := .cons rfl rv
  have bt := bind_pos (dvs := []) (vs := V.ref a :: vs) G hb .nil J3.kIn r1 (by rw [List.append_nil]; exact q2')
  refine ⟨⟨ClX.pin_at J3, J3.kIn⟩, ?_⟩
  refine thn (Q := EP _ ((q2, PySem.W.methodObj (.ref g) (.ref a)) :: pins) σ Q) (wpAny_call (PySem.W.method_call (ClX.pin_at J3) (codeAny_mono (G.go _ (ksEnv qual sc s0.heap.objs.size f (.ref cda) cc :: outer) s3 H2 ⟨.ref a :: us, []⟩ _ _ Q E rm gd J3.env0 bt (by rw [List.append_nil]; exact r1) q2') fun out s4 z4 => ?_))) fun _ _ y => ClX.unpinE y
  match out, z4 with
  | .error er, z4 => exact pass_S _ σ H2 s3 er s4 J3 z4
  | .ok (.ret v), z4 => exact J3.after z4
end
end
end KG

set_option Elab.async false
set_option linter.all false
set_option maxRecDepth 100000
set_option maxHeartbeats 1000000
/-! KD: methods and properties of an object whose class is known by its place in a list of classes. -/
namespace KG
open PySem PySem.Spec PySem.Calls PyProof.Rows L2
/-- each class of the list has a method m, promised sp -/
def DMeth (P : Program) (w : World) (K : PySem.W.Frag) (mg : Str → Option Value) (base : Heap) (CX : CXT) (k : Nat) (CL : List Addr) (m : Str) (ps : List Str) (sp : Nat → Sp) : Prop :=
  ∀ n C, CL[n]? = some C → ∃ f fd, Cls K C ∧ Meth K C m f ∧ Binds K fd ps [] ∧ Gd P w K mg base CX k f fd ps (sp n)
def DProp (P : Program) (w : World) (K : PySem.W.Frag) (mg : Str → Option Value) (base : Heap) (k : Nat) (CL : List Addr) (m : Str) (sp : Nat → Sp) : Prop :=
  ∀ n C, CL[n]? = some C → ∃ p g fd, Cls K C ∧ PropOf K C m p g ∧ Binds K fd ["self"] [] ∧ Gd P w K mg base CX0 k g fd ["self"] (sp n)
/-- the same with one argument by keyword -/
def DMethK (P : Program) (w : World) (K : PySem.W.Frag) (mg : Str → Option Value) (base : Heap) (CX : CXT) (k : Nat) (CL : List Addr) (m x : Str) (sp : Nat → Sp) : Prop :=
  ∀ n C, CL[n]? = some C → ∃ f fd, Cls K C ∧ Meth K C m f ∧ KBn K fd ["self", x] 1 [x] (fun us ws => us ++ ws) (fun us ws => us ++ ws) ∧ Gd P w K mg base CX k f fd ["self", x] (sp n)
def tDyn (CL : List Addr) (m : Str) (sp : Nat → Sp) (E : XK) (ta : TE) (tk : TA) : TE := fun σ H Q => ta σ H fun x H1 => ∃ a n C dx fs, x = .ref a ∧ CL[n]? = some C ∧ H1 a = some (.ins C dx fs) ∧ fs.lookup m = none ∧ tk σ H1 fun vs H2 => sp n (.ref a :: vs) H2 Q E
def tDynP (CL : List Addr) (sp : Nat → Sp) (E : XK) (ta : TE) : TE := fun σ H Q => ta σ H fun x H1 => ∃ a n C dx fs, x = .ref a ∧ CL[n]? = some C ∧ H1 a = some (.ins C dx fs) ∧ sp n [.ref a] H1 Q E
section
variable {X : Cx} {CX : CXT} {k j : Nat} {CL : List Addr} {ps : List Str} {sp : Nat → Sp} {E : XK} {m x : Str} {p pos apos : Pos} {e o : Expr} {es : List Expr} {kws : List Keyword} {ta : TE} {t tk : TA}
theorem pe_dmeth0 {pl : Sem Bool} (he : PE X o ta) (D : DMeth X.prog X.w X.K X.mg X.base CX j CL m ps sp) (rm : Room k X.A) (hk : j ≤ k) (gd : X.A.guards = some []) (hx : Passes CX X E)
    (ht : eval (.Call (.Attribute o m apos) [] [] pos) X.env = (do
      let w ← eval o X.env
      standAt apos.atName
      let (g, a) ← holding [w] (getMethod w m pl)
      callWith pos g a (backTo pos (starEach [] X.env)) (backToKw pos (keywordEach [] X.env))) := by rfl) :
    PE X (.Call (.Attribute o m apos) [] [] pos) (tDyn CL m sp E ta tNil) := by
  refine ⟨fun pins s σ H Q I h => PySem.W.methodCall_KW (pl := pl) (thn (he.run pins s σ H _ I h) fun u s1 ⟨y, H1, J, ry, a, n, C, dx, fs, ey, hC, ea, l, q⟩ => ?_) ht⟩
  subst ey
  obtain rfl : u = Value.ref a := ry
  obtain ⟨f, fd, c, hm, hb, F⟩ := D n C hC
  have r1 : Vals [V.ref a] [Value.ref a] := .cons rfl .nil
  exact getmeth_ok J ea c hm l (PySem.W.callWith_K0 (first := [.ref a]) J.kIn hm.kp (run_g (us := [.ref a]) F (rm.mono hk) gd hx J (bind_pos (dvs := []) (vs := [.ref a]) F hb .nil J.kIn r1 q) (r1.append .nil) q))
theorem pe_dmeth {pl : Sem Bool} (he : PE X o ta) (D : DMeth X.prog X.w X.K X.mg X.base CX j CL m ps sp) (rm : Room k X.A) (hk : j ≤ k) (gd : X.A.guards = some []) (hx : Passes CX X E) (ha : PA X (e :: es) t)
    (hst : starEach (e :: es) X.env = (false, eval e X.env) :: starEach es X.env := by rfl) (hpl : (backTo pos (starEach es X.env)).any (·.1) = false := by rfl)
    (ht : eval (.Call (.Attribute o m apos) (e :: es) [] pos) X.env = (do
      let w ← eval o X.env
      standAt apos.atName
      let (g, a) ← holding [w] (getMethod w m pl)
      callWith pos g a (backTo pos (starEach (e :: es) X.env)) (backToKw pos (keywordEach [] X.env))) := by rfl) :
    PE X (.Call (.Attribute o m apos) (e :: es) [] pos) (tDyn CL m sp E ta t) := by
  refine ⟨fun pins s σ H Q I h => PySem.W.methodCall_KW (pl := pl) (thn (he.run pins s σ H _ I h) fun u s1 ⟨y, H1, I1, ry, a, n, C, dx, fs, ey, hC, ea, l, q⟩ => ?_) ht⟩
  subst ey
  obtain rfl : u = Value.ref a := ry
  obtain ⟨f, fd, c, hm, hb, F⟩ := D n C hC
  refine getmeth_ok I1 ea c hm l (PySem.W.callWith_K (first := [.ref a]) (h₀ := X.base) I1.ok.mod.kin hm.kp (thn (ha.run pos pins s1 σ H1 _ I1 q) fun us s2 ⟨vs, H2, J, r, q2⟩ => ⟨J.kIn, ?_⟩) hst hpl)
  have r1 : Vals (V.ref a :: vs) (Value.ref a :: us) := .cons rfl r
  have q3 : sp n (V.ref a :: vs ++ []) H2 Q E := by rw [List.append_nil]; exact q2
  exact run_g F (rm.mono hk) gd hx J (bind_pos (dvs := []) F hb .nil J.kIn r1 q3) (r1.append .nil) q3
theorem pe_dprop (he : PE X o ta) (D : DProp X.prog X.w X.K X.mg X.base j CL m sp) (rm : Room (k + 1) X.A) (hk : j ≤ k) (gd : X.A.guards = some [])
    (ab : attributeBase o m X.env (eval o X.env) = eval o X.env := by rfl) : PE X (.Attribute o m pos) (tDynP CL sp E ta) := by
  refine ⟨fun pins s σ H Q I z => ?_⟩
  refine attr_of ab (thn (he.run pins s σ H _ I z) fun u s1 z1 => ?_)
  obtain ⟨v0, H1, J, ru, a, n, C, dx, fs, rfl, hC, ea, q⟩ := z1
  obtain ⟨p, g, fd, c, P, hb, F⟩ := D n C hC
  obtain rfl : u = Value.ref a := ru
  obtain ⟨mA, O, _⟩ := ins_get J.hok ea
  obtain ⟨od, O, _⟩ := O.look
  obtain ⟨tail, isP⟩ := P.rec_
  have isC : (PySem.W.clsIn X.K C).isSome = true := let ⟨_, w, _⟩ := PySem.W.any_some c.hd; w ▸ rfl
  have J1 := J.tok (s1.toks + 1)
  have pg := PySem.W.plainGet_of (c.get m)
  refine PySem.W.get_bind J.kIn O pg.1 (PySem.W.findObj_data isC P.at_ P.get P.tak) pg.2 (wpAny_call (PySem.W.prop_get (s := { s1 with toks := s1.toks + 1 }) J.kIn isP ?_))
  have r1 : Vals [V.ref a] [Value.ref a] := .cons rfl .nil
  have bt := bind_pos (dvs := []) (vs := [V.ref a]) F hb .nil J1.kIn r1 q
  refine codeAny_mono (F.go X.A.in1 X.stack { s1 with toks := s1.toks + 1 } H1 ⟨[.ref a], []⟩ _ _ Q E (rm.mono (Nat.succ_le_succ hk)).in1 gd J1.env0.in1 bt r1 q) fun out s2 z2 => ?_
  match out, z2 with
  | .error er, z2 => exact False.elim z2
  | .ok (.ret u), z2 =>
    obtain ⟨v, H2, J2, rv, q2⟩ := J1.after z2
    show wpAny _ _ (handedOut u) _ _ _
    rw [PySem.W.handedOut_of (handed_of rv)]
    exact wpAny_pure ⟨v, H2, J2, rv, q2⟩
def tDynK (CL : List Addr) (m : Str) (sp : Nat → Sp) (E : XK) (ta : TE) (tk : TA) : TE := fun σ H Q => ta σ H fun x H1 => ∃ a n C dx fs, x = .ref a ∧ CL[n]? = some C ∧ H1 a = some (.ins C dx fs) ∧ fs.lookup m = none ∧ tk σ H1 fun zs H2 => ∃ z, zs = [z] ∧ sp n [.ref a, z] H2 Q E
/-- o.m(x=e) -/
theorem pe_dmethK {pl : Sem Bool} (he : PE X o ta) (D : DMethK X.prog X.w X.K X.mg X.base CX j CL m x sp) (rm : Room k X.A) (hk : j ≤ k) (gd : X.A.guards = some []) (hx : Passes CX X E) (hkw : PK X kws tk)
    (hall : (backToKw pos (keywordEach kws X.env)).all (·.1.isSome) = true := by rfl) (hks : (backToKw pos (keywordEach kws X.env)).filterMap (·.1) = [x] := by rfl)
    (hpl : ((backTo pos (starEach [] X.env)).any (·.1) || (backToKw pos (keywordEach kws X.env)).any (·.1.isNone)) = false := by rfl)
    (ht : eval (.Call (.Attribute o m apos) [] kws pos) X.env = (do
      let w ← eval o X.env
      standAt apos.atName
      let (g, a) ← holding [w] (getMethod w m pl)
      callWith pos g a (backTo pos (starEach [] X.env)) (backToKw pos (keywordEach kws X.env))) := by rfl) :
    PE X (.Call (.Attribute o m apos) [] kws pos) (tDynK CL m sp E ta tk) := by
  refine ⟨fun pins s σ H Q I h => PySem.W.methodCall_KW (pl := pl) (thn (he.run pins s σ H _ I h) fun u s1 ⟨y, H1, I1, ry, a, n, C, dx, fs, ey, hC, ea, l, q⟩ => ?_) ht⟩
  subst ey
  obtain rfl : u = Value.ref a := ry
  obtain ⟨f, fd, c, hm, hb, F⟩ := D n C hC
  refine getmeth_ok I1 ea c hm l (PySem.W.callWith_KW0 (first := [.ref a]) (h₀ := X.base) I1.ok.mod.kin hm.kp hall (thn (hkw.run pos pins s1 σ H1 _ I1 q) fun ws s2 ⟨zs, H2, J, rz, z, ez, q2⟩ => ⟨J.kIn, ?_⟩) hpl)
  subst ez
  obtain ⟨u, eu, ru⟩ := vals1 rz
  subst eu
  rw [hks]
  have r1 : Vals [V.ref a] [Value.ref a] := .cons rfl .nil
  exact run_g (us := [.ref a]) F (rm.mono hk) gd hx J (hb.to s2 [.ref a] [u] J.kIn rfl rfl) (hb.rel r1 (.cons ru .nil)) q2
theorem w_dynP {σ : L2.St} {H : Hp} {Q : VK} (q : ta σ H fun x H1 => ∃ a n C dx fs, x = .ref a ∧ CL[n]? = some C ∧ H1 a = some (.ins C dx fs) ∧ sp n [.ref a] H1 Q E) : tDynP CL sp E ta σ H Q := q
theorem w_dyn {σ : L2.St} {H : Hp} {Q : VK} (q : ta σ H fun x H1 => ∃ a n C dx fs, x = .ref a ∧ CL[n]? = some C ∧ H1 a = some (.ins C dx fs) ∧ fs.lookup m = none ∧ tk σ H1 fun vs H2 => sp n (.ref a :: vs) H2 Q E) : tDyn CL m sp E ta tk σ H Q := q
theorem w_dynK {σ : L2.St} {H : Hp} {Q : VK} (q : ta σ H fun x H1 => ∃ a n C dx fs, x = .ref a ∧ CL[n]? = some C ∧ H1 a = some (.ins C dx fs) ∧ fs.lookup m = none ∧ tk σ H1 fun zs H2 => ∃ z, zs = [z] ∧ sp n [.ref a, z] H2 Q E) : tDynK CL m sp E ta tk σ H Q := q
end
end KG

set_option Elab.async false
set_option linter.all false
set_option maxRecDepth 100000
set_option maxHeartbeats 3200000
/-! KC: set(xs) of a list of whole numbers, as a value; sorted of it is the layer's own. -/
namespace KG
open PySem PySem.Spec PySem.Calls PyProof.Rows L2
section
variable {P : Program} {w : World} {A : Around} {E : Value → Shared → Prop} {s : Shared}
/-- a set as set.__new__ lays it -/
abbrev set0 (w : World) : Obj := { cls := .type "set", dict := none, data := .set #[] 0 (.fresh 0 0 (!w.params.followText "set-order")) }
/-- the state with such a set laid -/
abbrev laid0 (w : World) (s : Shared) : Shared := { s with heap := s.heap.push (set0 w) }
/-- what stands behind: all that was, and the set of the numbers at d -/
def Filled (w : World) (s : Shared) (d : Addr) (ns : List Int) (s' : Shared) : Prop :=
  ∃ (h' : Heap) (tk c : Nat), s' = { s with heap := h', toks := tk } ∧ SetR w h' d (fun j => decide (j ∈ ns)) c ∧ c ≤ ns.length ∧ ∀ b o, b ≠ d → s.heap.get? b = some o → h'.get? b = some o
/-- the filling, from the list's iterator -/
theorem fill_from {B : Around} {l d : Addr} {items : Array Value} {ns : List Int} {R : Result → Shared → Prop} (hB : B.handled = none) (hit : IntsAre items.toList ns) (hb : ns.length + 1 < scanBound) (hl : s.heap.IsList l items)
    (hd : s.heap.get? d = some (set0 w)) (hne : d ≠ l) (h : ∀ s', Filled w s d ns s' → R (.ok (.ret .none)) s') :
    codeAny (model P w) B (.builtin "set.update.loop" ⟨[.ref d, .ref s.heap.objs.size], []⟩) R { s with heap := s.heap.push { cls := .type "list_iterator", data := .fields #[.ref l, .int 0 0] } } := by
  have en : items.size = ns.length := by
    have q := IntsAre.length hit
    rwa [Array.length_toList] at q
  obtain ⟨ol, hol, hol2⟩ := id hl
  have lt1 : l < s.heap.objs.size := Heap.lt_size hol
  have lt2 : d < s.heap.objs.size := Heap.lt_size hd
  have at_i : ∀ (i : Nat) (v : Value), items[i]? = some v → ∃ k t, ns[i]? = some k ∧ v = .int k t := fun i v hv => by
    have hi : i < ns.length := by rw [← en]; exact (Array.getElem?_eq_some_iff.mp hv).1
    obtain ⟨t, e⟩ := PyProof.Rows.IntsAre.int_at hit i v (by rw [Array.getElem?_toList]; exact hv)
    refine ⟨ns[i], t, List.getElem?_eq_getElem hi, ?_⟩
    rw [e, List.getD_eq_getElem?_getD, List.getElem?_eq_getElem hi] <;> rfl
  refine set_update_ints ((Walks.list (by simp [hB]) s.heap.objs.size l (Nat.ne_of_lt lt1) items).toS) d (by simp; exact ⟨Nat.ne_of_lt lt2, hne⟩) ns en hb at_i items.size 0 _ (by omega) (Nat.zero_le _)
    ⟨⟨_, Heap.get?_push_size _ rfl, rfl, rfl⟩, hl.push _⟩ ⟨0, Nat.le_refl 0, setR_new_at (Heap.get?_push_of_some _ hd)⟩ fun s' c m hc R1 => h s' ?_
  obtain ⟨h', g', d', tk, os'⟩ := s'
  obtain rfl : g' = s.gens := m.gens
  obtain rfl : d' = s.drawn := m.drawn
  obtain rfl : os' = s.os := m.os
  refine ⟨h', tk, c, rfl, R1, en ▸ hc, fun b o nb e => m.heap b o ?_ (Heap.get?_push_of_some _ e)⟩
  have := Heap.lt_size e
  simp only [List.mem_cons, List.not_mem_nil, or_false, not_or]
  exact ⟨nb, Nat.ne_of_lt this⟩
/-- set.__init__ on the fresh set -/
theorem init_list {l : Addr} {items : Array Value} {ns : List Int} (hh : A.handled = none) (hit : IntsAre items.toList ns) (hb : ns.length + 1 < scanBound) (hl : s.heap.IsList l items) :
    codeAny (model P w) A (.call (.builtin "set.__init__") ⟨[.ref s.heap.objs.size, .ref l], []⟩) (wants (fun r s' => r = .none ∧ Filled w (laid0 w s) s.heap.objs.size ns s') E) (laid0 w s) := by
  have hS : (laid0 w s).heap.get? s.heap.objs.size = some (set0 w) := Heap.get?_push_size _ rfl
  have hT : (laid0 w s).TypeIs (.ref s.heap.objs.size) "set" := ⟨_, hS, rfl⟩
  refine codeAny_call_builtin F.called_set.init.plain F.entry_set_init (check_set_init_1 hT ?_)
  have hl1 : (laid0 w s).heap.IsList l items := hl.push _
  obtain ⟨⟨ocls, odict, odata, osl⟩, hol, hcl, nl, hdl⟩ := id hl
  simp only at hcl hdl
  subst hcl hdl
  have hol' := Heap.get?_push_of_some (set0 w) hol
  have e1 := F.sub_list_set
  have e2 := F.sub_list_frozenset
  have e3 : (Value.type "list" == Value.type "dict") = false := by decide
  have lt1 : l < s.heap.objs.size := Heap.lt_size hol
  unfold Builtin.«set.__init__» noKeywords Builtin.Frozenset.updateFrom
  generalize hPI : pyIter = PI
  wp_walk
  subst hPI
  refine wpAny_pyIter_list hl1 ?_
  refine wpAny_bind (wpAny_runValue (fill_from (s := laid0 w s) (by simp [hh]) hit hb hl1 hS (Nat.ne_of_gt lt1) fun s' f => ?_))
  show wpAny _ _ _ _ _ _
  refine wpAny_pure ?_
  show wpAny _ _ (ret Value.none) _ _ _
  exact wpAny_pure ⟨rfl, f⟩
/-- set(xs) -/
theorem set_list {l : Addr} {items : Array Value} {ns : List Int} {Q : Value → Shared → Prop} (hh : A.handled = none) (hit : IntsAre items.toList ns) (hb : ns.length + 1 < scanBound) (hl : s.heap.IsList l items)
    (h : ∀ s', Filled w (laid0 w s) s.heap.objs.size ns s' → Q (.ref s.heap.objs.size) s') : wpAny (model P w) A (call (.type "set") [.ref l]) Q E s := by
  obtain ⟨c, tl, hmro⟩ := F.called_set.mro
  have k1 := F.called_set.made
  have k2 := F.called_set.sub
  have k3 := F.called_set.notType
  have k4 := F.called_set.canCreate
  have k5 := F.typeCall_set_1 (.ref l)
  refine wpAny_call (codeAny_of_tree ?_)
  show wpAny _ _ (callAny (.type "set") _) _ _ _
  refine wpAny_pure ⟨Code.quiet_builtin _ (by decide +kernel), codeAny_builtin F.entry_type_call ?_⟩
  rw [Around.under_plain (weight_type_call_type "set" [.ref l] []) rfl]
  repeat (any_goals (first | assumption | wp_step))
  refine codeAny_mono (code_set_led1 (.ref l) (E := E) (Q₁ := fun obj s₁ => obj = .ref s.heap.objs.size ∧ s₁ = laid0 w s) ⟨rfl, rfl⟩) fun r s₁ hr => ?_
  rcases r with e | (_ | _ | _ | obj)
  · exact hr
  iterate 3 exact hr.elim
  · obtain ⟨rfl, rfl⟩ := hr
    have hS : (laid0 w s).heap.get? s.heap.objs.size = some (set0 w) := Heap.get?_push_size _ rfl
    have hT : (laid0 w s).TypeIs (.ref s.heap.objs.size) "set" := ⟨_, hS, rfl⟩
    have k6 := F.called_set.init.lookup
    have k7 := F.called_set.init.bind (.ref s.heap.objs.size)
    repeat (any_goals (first | assumption | wp_step))
    refine codeAny_mono (init_list (E := E) (by simp [hh]) hit hb hl) fun r₂ s₂ hr₂ => ?_
    rcases r₂ with e | (_ | _ | _ | r)
    · exact hr₂
    iterate 3 exact hr₂.elim
    · obtain ⟨rfl, f⟩ := hr₂
      repeat (any_goals (first | assumption | wp_step))
      exact h _ f
end
/-- set(xs), xs a list of whole numbers -/
def rSetI (K : PySem.W.Frag) (w : World) : List V → Hp → VK → Prop := fun xs H Q => ∃ (l : Addr) (ns : List Int), xs = [.ref l] ∧ SqL K H l (ns.map V.int) ∧ ns.length ≤ 1000 ∧ ∀ (a : Addr) (c : Nat), H a = none → c ≤ ns.length → Q (.ref a) (upd H a (SetO w a (fun j => decide (j ∈ ns)) c))
theorem cr_setI {X : Cx} (hc : X.calm = true) : CallR X (.type "set") (rSetI X.K X.w) := by
  intro pins s σ H xs us Q I r h
  obtain ⟨l, ns, rfl, hl, hb, q⟩ := h
  rw [Vals.ref1 r]
  obtain ⟨its, rv, p, hz⟩ := I.list hl
  have fr : H s.heap.objs.size = none := I.hok.fresh (Nat.le_refl _)
  refine set_list (I.ok.hd hc) (ns := ns) (items := its.toArray) (by simpa using RZ.intsAre_vals rv) (by unfold scanBound; omega) p.isList fun s' ⟨h', tk, c, e, R, hcl, k⟩ => ?_
  subst e
  have kp : ∀ b o, s.heap.get? b = some o → h'.get? b = some o := fun b o e => k b o (Nat.ne_of_lt (Heap.lt_size e)) (Heap.get?_push_of_some _ e)
  exact ⟨.ref s.heap.objs.size, upd H s.heap.objs.size (SetO X.w s.heap.objs.size (fun j => decide (j ∈ ns)) c), I.laid (t' := tk) kp (Nat.le_refl _) (setO_new R), rfl, q _ c fr hcl⟩
end KG

set_option Elab.async false
set_option linter.all false
set_option maxRecDepth 100000
set_option maxHeartbeats 3200000
/-! KB: {e for x in a for y in b}, e a whole number: one rule for a clause's loop, whatever a turn of it does; the comprehension by two of them. -/
namespace KG
open PySem PySem.Spec PySem.Calls PyProof.Rows L2

/-- a clause's turn, the rest of it told by `rest` -/
def clTurn (tg iter : Expr) (ifs : List Expr) (env : Env) (it : Value) (rest : Sem Unit) (c : Code) : Sem Fin := do
  standAt iter.pos
  match ← pyNext it with
  | none => pure (.done .next)
  | some v =>
    letOwnedTupleGo tg it v
    assign tg env v
    let mut ok := true
    for c in ifs do
      if ok then ok ← isTrue c env (eval c env)
    if ok then rest
    again c
/-- what a clause asks: `tb` what its rest asks, to reach what stands behind -/
def ClQ (J : It) (g : TG) (tt : TT) (tb : L2.St → Hp → (Hp → Prop) → Prop) (vs : List Nat) (σ : L2.St) (H : Hp) (Z : Hp → Prop) : Prop :=
  ∃ W : Nat → Nat → Hp → Prop, (∃ m, W 0 m H) ∧ ∀ i m H, W i m H → (J.stop i H ∧ Z H) ∨ (J.go i H ∧ ∃ Nx : Hp → Prop, (∀ H', Nx H' → ∃ m', m' < m ∧ W (i + 1) m' H') ∧
    ∀ x H', J.yld i H x H' → g x (wipe σ vs) H' fun σ2 H2 => wipe σ2 vs = wipe σ vs ∧ tt σ2 H2 fun b H3 => if b = true then tb σ2 H3 Nx else Nx H3)
/-- the rest of a turn: what it leaves knows all slots but those of the clause's own names -/
def Rest (X : Cx) (rest : Sem Unit) (tb : L2.St → Hp → (Hp → Prop) → Prop) (vs : List Nat) : Prop :=
  ∀ (pins : List (Addr × Obj)) (s : Shared) (σ : L2.St) (H : Hp) (Z : Hp → Prop), Inv X pins σ H s → tb σ H Z →
    wpAny (model X.prog X.w) X.A rest (fun _ s' => ∃ σ' H', Inv X pins σ' H' s' ∧ σ'.length = σ.length ∧ (∀ (j : Nat) v, (wipe σ vs)[j]? = some (some v) → σ'[j]? = some (some v)) ∧ Z H') (fun _ _ => False) s
section
variable {X : Cx} {elt tg iter : Expr} {gens : List Comprehension} {ifs : List Expr} {scope : Scope} {pos : Pos} {d : Nat} {acc : Value} {R : Result → Shared → Prop} {pins : List (Addr × Obj)} {J : It} {g : TG} {tt : TT} {tb : L2.St → Hp → (Hp → Prop) → Prop} {vs : List Nat}
  {σ : L2.St} {H : Hp} {Z : Hp → Prop} {s : Shared} {rest : Sem Unit} {it : Addr} {fp : List Addr} {tn : Nat → Heap → Prop}
theorem clause_run (hx : X.xe = fun _ _ => False) (hc : X.calm = true) (ht : compTurn (.SetComp elt gens scope pos) d (.ref it) acc X.env = clTurn tg iter ifs X.env (.ref it) rest (.compLoop (.SetComp elt gens scope pos) d (.ref it) acc X.env))
    (pg : PG X tg g) (pt : PTs X ifs tt) (pr : Rest X rest tb vs) (T : Turn X.prog X.w X.K tg J fp it tn) (I : Inv X pins (wipe σ vs) H s) (st : tn 0 s.heap) (fo : ∀ b ∈ fp, FpOk X pins H b) (q : ClQ J g tt tb vs σ H Z)
    (hR : ∀ s' H', Inv X pins (wipe σ vs) H' s' → Z H' → R (.ok .next) s') : codeAny (model X.prog X.w) X.A (.compLoop (.SetComp elt gens scope pos) d (.ref it) acc X.env) R s := by
  obtain ⟨W, ⟨m0, w0⟩, turn⟩ := q
  refine codeAny_loop rfl (fun n t => ∃ i G, Inv X pins (wipe σ vs) G t ∧ tn i t.heap ∧ (∀ b ∈ fp, FpOk X pins G b) ∧ W i n G) (fun n t ht1 => ?_) m0 ⟨0, H, I, st, fo, w0⟩
  obtain ⟨i, G, I1, st1, fo1, w1⟩ := ht1
  show wpAny _ X.A ((compTurn (.SetComp elt gens scope pos) d (.ref it) acc X.env).onRaise fun x => do noteFrame x X.env; theTreesLotGoes x) _ _ t
  refine wpAny_noted ?_
  rw [ht]
  unfold clTurn
  refine wpAny_bind (wpAny_standAt (wpAny_bind ?_))
  rcases turn i n G w1 with ⟨stop, z⟩ | ⟨go, Nx, less, step⟩
  · exact thnF (T.done X rfl rfl rfl hc i pins t (wipe σ vs) G (fun _ _ => False) I1 fo1 st1 stop) fun r t2 ⟨er, I2⟩ => by
      subst er
      exact wpAny_pure (hR t2 G I2 z)
  refine thnF (T.item X rfl rfl rfl hc i pins t (wipe σ vs) G (fun _ _ => False) I1 fo1 st1 go) fun r t2 ⟨u, er, next⟩ => ?_
  subst er
  refine wpAny_bind (thnF next fun _ t3 ⟨x, G3, I3, rx, y3, st3, none3⟩ => ?_)
  have fo3 : ∀ b ∈ fp, FpOk X pins G3 b := fun b hb => ⟨none3 b hb, (fo1 b hb).2⟩
  have P3 := I3.pinned fo3 (T.obj _ _ st3)
  -- the turn is over
  have over : ∀ {τ : L2.St} {t' : Shared} {G' : Hp}, Inv X (pins ++ pinsAt fp t3.heap) τ G' t' → τ.length = (wipe σ vs).length → (∀ (j : Nat) v, (wipe σ vs)[j]? = some (some v) → τ[j]? = some (some v)) → Nx G' →
      ∃ m, m < n ∧ ∃ i G, Inv X pins (wipe σ vs) G t' ∧ tn i t'.heap ∧ (∀ b ∈ fp, FpOk X pins G b) ∧ W i m G := fun {τ t' G'} I' l k nx => by
    obtain ⟨m, lt, w'⟩ := less G' nx
    have held : ∀ b ∈ fp, ∀ o, t3.heap.get? b = some o → t'.heap.get? b = some o ∧ G' b = none := fun b hb o e => by
      have z := I'.pin (b, o) (List.mem_append_right _ (List.mem_append_right _ (mem_pinsAt hb e)))
      exact ⟨z.1, z.2.1⟩
    refine ⟨m, lt, i + 1, G', I'.unpinned.weak l.symm k, T.keep _ _ _ st3 fun b hb o e => (held b hb o e).1, fun b hb => ⟨?_, (fo1 b hb).2⟩, w'⟩
    obtain ⟨o, e, _⟩ := T.obj _ _ st3 b hb
    exact (held b hb o e).2
  have pg' := pg.run _ t3 (wipe σ vs) G3 x u _ P3 rx (step x G3 y3)
  rw [hx] at pg'
  refine wpAny_bind (thnF pg' fun _ t4 ⟨σ4, G4, I4, e4, q4⟩ => ?_)
  have pt' := pt.run _ t4 σ4 G4 _ I4 q4
  rw [hx] at pt'
  have l4 : σ4.length = (wipe σ vs).length := by rw [← e4, wipe_length]
  refine wpAny_bind (thnF pt' fun b t5 ⟨G5, I5, q5⟩ => ?_)
  cases b with
  | false => exact wpAny_pure ⟨rfl, over I5 l4 (fun j v e => by rw [← e4] at e; exact (wipe_some e).1) q5⟩
  | true =>
    refine wpAny_bind (thnF (pr _ t5 σ4 G5 Nx I5 q5) fun _ t6 ⟨σ6, G6, I6, l6, k6, q6⟩ => ?_)
    exact wpAny_pure ⟨rfl, over I6 (l6.trans l4) (fun j v e => k6 j v (by rw [e4]; exact e)) q6⟩
/-- a clause's start -/
theorem clause_start {ce : Env} {c : Comprehension} (hg : gens[d]? = some c) (ha : c.is_async = 0) (h : codeAny (model X.prog X.w) X.A (.compLoop (.SetComp elt gens scope pos) d (.ref it) acc ce) R s) (T : Turn X.prog X.w X.K tg J fp it tn) (st : tn 0 s.heap) :
    codeAny (model X.prog X.w) X.A (.compStart (.SetComp elt gens scope pos) d (.ref it) acc ce) R s := by
  refine codeAny_of_tree ?_
  show wpAny _ _ ((compStart (.SetComp elt gens scope pos) d (.ref it) acc ce).onRaise fun x => do noteFrame x ce; standAt theWindowsPlace) _ _ s
  refine wpAny_notedAt ?_
  have hcl : (clausesOf (.SetComp elt gens scope pos))[d]? = some c := hg
  unfold compStart
  rw [hcl]
  have hn : ((some c : Option Comprehension).elim false fun x => x.is_async != 0) = false := by
    show (c.is_async != 0) = false
    rw [ha]
    rfl
  rw [hn]
  simp only [Bool.false_eq_true, if_false]
  show wpAny _ _ (ask >>= _) _ _ s
  refine wpAny_bind (wpAny_askSetting (wpAny_ite ?_))
  have last : ∀ (s' : Shared) (E' : Value → Shared → Prop), s' = s → wpAny (model X.prog X.w) X.A (again (.compLoop (.SetComp elt gens scope pos) d (.ref it) acc ce)) (fun fin s' => match fin with | .done f => R (.ok f) s' | .again c' => c'.quiet = true ∧ codeAny (model X.prog X.w) X.A c' R s') E' s' := fun s' E' e => by
    subst e
    exact wpAny_pure ⟨rfl, h⟩
  split
  · first
      | exact last _ _ rfl
      | exact wpAny_bind (last _ _ rfl)
      | exact wpAny_bind (wpAny_pure (last _ _ rfl))
  · refine wpAny_bind (wpAny_rule ?_)
    first
      | exact wpAny_bind (wpAny_standAt (wpAny_bind (T.self X.A 0 s _ _ st (last _ _ rfl))))
      | exact wpAny_bind (wpAny_bind (wpAny_standAt (wpAny_bind (T.self X.A 0 s _ _ st (last _ _ rfl)))))
/-- the last clause's rest: the item goes into the set -/
def tAdd (w : World) (D : Addr) (te : TE) : L2.St → Hp → (Hp → Prop) → Prop := fun σ H Z => te σ H fun y H1 => ∃ (k : Int) (S : Int → Bool) (n : Nat), y = .int k ∧ H1 D = some (SetO w D S n) ∧ n + 1 < scanBound ∧ Z (upd H1 D (SetO w D (fun j => S j || decide (j = k)) (if S k = true then n else n + 1)))
theorem rest_add {D : Addr} {te : TE} (hx : X.xe = fun _ _ => False) (pe : PE X elt te) : Rest X (do let v ← eval elt X.env; standAt elt.pos; let _ ← call (.builtin "set.add") [.ref D, v]) (tAdd X.w D te) vs := by
  intro ps t τ G Y I q
  have h := pe.run ps t τ G _ I q
  rw [hx] at h
  refine wpAny_bind (thnF h fun u t1 ⟨y, G1, I1, r1, k, S, n, ey, hD, room, z⟩ => ?_)
  subst ey
  refine wpAny_bind (wpAny_standAt (wpAny_bind ?_))
  refine wpAny_mono (mt_sadd ps t1 τ G1 (.ref D) [.int k] (.ref D) [u] (fun _ G2 => Y G2) I1 rfl (.cons r1 .nil) ⟨D, k, S, n, rfl, rfl, hD, room, z⟩) (fun v t2 ⟨y2, G2, I2, _, z2⟩ => ?_) fun _ _ e => ?_
  · exact wpAny_pure ⟨τ, G2, I2, rfl, fun j v e => (wipe_some e).1, z2⟩
  · rw [hx] at e
    exact e
/-- a clause's rest that is the next clause -/
def tNext1 (wi : TI) (g : TG) (tt : TT) (tb : L2.St → Hp → (Hp → Prop) → Prop) (vs : List Nat) : L2.St → Hp → (Hp → Prop) → Prop := fun σ H Z => wi σ H fun J H1 => ClQ J g tt tb vs σ H1 Z
theorem rest_next {tg1 iter1 : Expr} {ifs1 : List Expr} {wi1 : TI} {g1 : TG} {tt1 : TT} {vs1 : List Nat} {rest1 : Sem Unit} {c : Comprehension} (hx : X.xe = fun _ _ => False) (hc : X.calm = true) (hs : ∀ x, foldedSetIterable iter1 X.env x = pure x) (hg : gens[d]? = some c) (ha : c.is_async = 0)
    (ht : ∀ it, compTurn (.SetComp elt gens scope pos) d it acc X.env = clTurn tg1 iter1 ifs1 X.env it rest1 (.compLoop (.SetComp elt gens scope pos) d it acc X.env))
    (pi1 : PI X tg1 iter1 wi1) (pg : PG X tg1 g1) (pt : PTs X ifs1 tt1) (pr : Rest X rest1 tb vs1) (sub : ∀ i ∈ vs1, i ∈ vs) :
    Rest X (do
      let x ← eval iter1 X.env
      standAt iter1.pos
      let x ← foldedSetIterable iter1 X.env x
      let _ ← runOwn (.compStart (.SetComp elt gens scope pos) d (← holding [x] (pyIter x)) acc X.env) X.env) (tNext1 wi1 g1 tt1 tb vs1) vs := by
  intro ps t τ G Y I q
  have h := pi1.run ps t τ G _ I q
  rw [hx] at h
  refine wpAny_bind (thnF h fun x t1 h1 => ?_)
  refine wpAny_bind (wpAny_standAt (wpAny_bind (wpAny_of_eq (hs x) (wpAny_bind (wpAny_holding (thnF h1 fun iv t2 h2 => ?_))))))
  obtain ⟨it1, fp1, tn1, J1, G2, e, I2, T1, st2, fo2, q2⟩ := h2
  subst e
  refine wpAny_bind (wpAny_runOwn ?_)
  rw [Around.mark_none]
  have keep : ∀ (j : Nat) v, (wipe τ vs)[j]? = some (some v) → (wipe τ vs1)[j]? = some (some v) := fun j v e => by
    obtain ⟨e1, e2⟩ := wipe_some e
    rw [wipe_out fun z => e2 (sub j z)]
    exact e1
  refine codeAny_mono (R := fun r t' => r = .ok .next ∧ ∃ G', Inv X ps (wipe τ vs1) G' t' ∧ Y G') (clause_start hg ha (clause_run hx hc (ht _) pg pt pr T1 (I2.weak (wipe_length _ _) fun j v e => (wipe_some e).1) st2 fo2 q2 fun t' G' I' z => ⟨rfl, G', I', z⟩) T1 st2) fun r t' ⟨er, G', I', z⟩ => ?_
  subst er
  have fin : ∃ σ' H', Inv X ps σ' H' t' ∧ σ'.length = τ.length ∧ (∀ (j : Nat) v, (wipe τ vs)[j]? = some (some v) → σ'[j]? = some (some v)) ∧ Y H' := ⟨_, G', I', wipe_length _ _, keep, z⟩
  first
    | exact wpAny_pure fin
    | exact wpAny_bind (wpAny_pure (wpAny_pure fin))
end
theorem turn_out {elt tg iter tg1 iter1 : Expr} {ifs ifs1 : List Expr} {scope : Scope} {pos : Pos} {it acc : Value} {env : Env} :
    compTurn (.SetComp elt [⟨tg, iter, ifs, 0⟩, ⟨tg1, iter1, ifs1, 0⟩] scope pos) 0 it acc env = clTurn tg iter ifs env it (do
      let x ← eval iter1 env
      standAt iter1.pos
      let x ← foldedSetIterable iter1 env x
      let _ ← runOwn (.compStart (.SetComp elt [⟨tg, iter, ifs, 0⟩, ⟨tg1, iter1, ifs1, 0⟩] scope pos) 1 (← holding [x] (pyIter x)) acc env) env) (.compLoop (.SetComp elt [⟨tg, iter, ifs, 0⟩, ⟨tg1, iter1, ifs1, 0⟩] scope pos) 0 it acc env) := by
  unfold clTurn
  simp only [bind_assoc, pure_bind]
  rfl
theorem turn_in {elt tg iter tg1 iter1 : Expr} {ifs ifs1 : List Expr} {scope : Scope} {pos : Pos} {it acc : Value} {env : Env} :
    compTurn (.SetComp elt [⟨tg, iter, ifs, 0⟩, ⟨tg1, iter1, ifs1, 0⟩] scope pos) 1 it acc env = clTurn tg1 iter1 ifs1 env it (do let v ← eval elt env; standAt elt.pos; let _ ← call (.builtin "set.add") [acc, v]) (.compLoop (.SetComp elt [⟨tg, iter, ifs, 0⟩, ⟨tg1, iter1, ifs1, 0⟩] scope pos) 1 it acc env) := by rfl
section
variable {X : Cx}
/-- {elt for tg in iter if .. for tg1 in iter1 if ..}, elt a whole number: D the new set -/
def tSc2 (w : World) (wi : TI) (g : TG) (tt : TT) (wi1 : TI) (g1 : TG) (tt1 : TT) (te : TE) (vs vs1 : List Nat) : TE := fun σ H Q => wi σ H fun J H1 => ∀ D, H1 D = none →
  ClQ J g tt (tNext1 wi1 g1 tt1 (tAdd w D te) vs1) vs σ (upd H1 D (SetO w D (fun _ => false) 0)) (Q (.ref D))
theorem pe_sc2 {elt tg iter tg1 iter1 : Expr} {ifs ifs1 : List Expr} {scope : Scope} {own : List (Str × Nat)} {vs1 : List Nat} {pos : Pos} {wi wi1 : TI} {g g1 : TG} {tt tt1 : TT} {te : TE} (hc : X.calm = true) (hN : X.N.Nodup) (hi : PI X tg iter wi) (ok : BlkOk X.N X.env.scope scope own) (sub : ∀ i ∈ vs1, i ∈ own.map (·.2))
    (pg : ∀ (s : Shared) (H : Hp) (C : Addr) (cl : List (Str × Addr)) (fp : List Addr), PG (X.blk s H scope (compEnvC scope cl C X.env) fp) tg g) (pt : ∀ (s : Shared) (H : Hp) (C : Addr) (cl : List (Str × Addr)) (fp : List Addr), PTs (X.blk s H scope (compEnvC scope cl C X.env) fp) ifs tt)
    (hi1 : ∀ (s : Shared) (H : Hp) (C : Addr) (cl : List (Str × Addr)) (fp : List Addr), PI (X.blk s H scope (compEnvC scope cl C X.env) fp) tg1 iter1 wi1)
    (pg1 : ∀ (s : Shared) (H : Hp) (C : Addr) (cl : List (Str × Addr)) (fp : List Addr), PG (X.blk s H scope (compEnvC scope cl C X.env) fp) tg1 g1) (pt1 : ∀ (s : Shared) (H : Hp) (C : Addr) (cl : List (Str × Addr)) (fp : List Addr), PTs (X.blk s H scope (compEnvC scope cl C X.env) fp) ifs1 tt1)
    (pe : ∀ (s : Shared) (H : Hp) (C : Addr) (cl : List (Str × Addr)) (fp : List Addr), PE (X.blk s H scope (compEnvC scope cl C X.env) fp) elt te) (hs : ∀ x, foldedSetIterable iter X.env x = pure x := by intro _; rfl) (hs1 : ∀ env x, foldedSetIterable iter1 env x = pure x := by intro _ _; rfl) :
    PE X (.SetComp elt [⟨tg, iter, ifs, 0⟩, ⟨tg1, iter1, ifs1, 0⟩] scope pos) (tSc2 X.w wi g tt wi1 g1 tt1 te (own.map (·.2)) vs1) := by
  refine ⟨fun pins s σ H Q I h => ?_⟩
  have closed : ∀ y ∈ scope.names, y.2 = .free → ∃ c, X.env.cells.lookup y.1 = some c := fun y hy e => (ok.free y hy e).elim (fun k => I.ok.has _ (.inl k)) fun k => I.ok.has _ (.inr k)
  show wpAny _ _ (comprehension (.SetComp elt [⟨tg, iter, ifs, 0⟩, ⟨tg1, iter1, ifs1, 0⟩] scope pos) scope X.env _ (newSet (.type "set")) _ (eval iter X.env)) _ _ s
  refine wpAny_comprehension_free (use := none) rfl hs (closure_ok closed) ok.kind (fun y hy e => by rw [ok.uniq y hy, e]) (thn (hi.run pins s σ H _ I h) fun xv t1 hx => thn hx fun iv t2 h2 => ?_)
  obtain ⟨it, fp, tn, J, H2, e, I2, T, st2, fo2, q⟩ := h2
  subst e
  refine PpSet.newSet_ok (newEnv_comp ?_)
  generalize hD : t2.heap.objs.size = D
  have q := q D (I2.hok.fresh (Nat.le_of_eq hD))
  generalize ht3 : ({ t2 with heap := t2.heap.push { cls := .type "set", dict := none, data := .set #[] 0 (.fresh 0 0 (!X.w.params.followText "set-order")) } } : Shared) = t3
  generalize hH3 : upd H2 D (SetO X.w D (fun _ => false) 0) = H3 at q
  have e3 : t3.heap = t2.heap.push { cls := .type "set", dict := none, data := .set #[] 0 (.fresh 0 0 (!X.w.params.followText "set-order")) } := by rw [← ht3]
  have I3 : Inv X pins σ H3 t3 := by
    rw [← ht3, ← hH3]
    refine I2.laid (t' := t2.toks) (fun b o e => Heap.get?_push_of_some _ e) (Nat.le_of_eq hD) ?_
    rw [← hD]
    exact setO_new (setR_fresh X.w)
  have young : ∀ b ∈ fp, b < t2.heap.objs.size := fun b hb => by
    obtain ⟨o, e, _⟩ := T.obj _ _ st2 b hb
    exact Heap.lt_size e
  have fo3 : ∀ b ∈ fp, FpOk X pins H3 b ∧ b < t3.heap.objs.size := fun b hb => by
    have lt := young b hb
    have ne : b ≠ D := by
      rw [← hD]
      exact Nat.ne_of_lt lt
    refine ⟨⟨?_, (fo2 b hb).2⟩, by rw [e3, Heap.size_push]; exact Nat.lt_succ_of_lt lt⟩
    rw [← hH3, upd_ne ne]
    exact (fo2 b hb).1
  have I4 := block_start I3 ok hN fo3
  generalize hcl : cellsFrom (t3.heap.objs.size + 1) scope.names (cloFrom X.env.cells scope.names []) = cl at I4
  have pg := pg t3 H3 t3.heap.objs.size cl fp
  have pt := pt t3 H3 t3.heap.objs.size cl fp
  have pi1 := hi1 t3 H3 t3.heap.objs.size cl fp
  have pg1 := pg1 t3 H3 t3.heap.objs.size cl fp
  have pt1 := pt1 t3 H3 t3.heap.objs.size cl fp
  have pe := pe t3 H3 t3.heap.objs.size cl fp
  show codeAny _ _ (.compStart (.SetComp elt [⟨tg, iter, ifs, 0⟩, ⟨tg1, iter1, ifs1, 0⟩] scope pos) 0 (.ref it) (.ref D) (compEnvC scope cl t3.heap.objs.size X.env)) _ { t3 with heap := pushCells (t3.heap.push { cls := .type "dict", data := .dict #[] }) scope.names }
  generalize ht4 : ({ t3 with heap := pushCells (t3.heap.push { cls := .type "dict", data := .dict #[] }) scope.names } : Shared) = t4 at I4 ⊢
  have st4 : tn 0 t4.heap := T.keep _ _ _ st2 fun b _ o e => by
    rw [← ht4]
    exact pushCells_keeps _ _ _ _ (Heap.get?_push_of_some _ (by rw [e3]; exact Heap.get?_push_of_some _ e))
  have fo4 : ∀ b ∈ fp, FpOk (X.blk t3 H3 scope (compEnvC scope cl t3.heap.objs.size X.env) fp) [] H3 b := fun b hb =>
    ⟨(fo3 b hb).1.1, (I4.ok.exf b hb).1, I4.ok.exfs b hb, .inl hb, fun x c e => (I4.ok.exf b hb).2 x c e, fun p hp => absurd (show p ∈ ([] : List (Addr × Obj)) ++ [] from hp) (by simp)⟩
  have run := clause_run (X := X.blk t3 H3 scope (compEnvC scope cl t3.heap.objs.size X.env) fp) (elt := elt) (gens := [⟨tg, iter, ifs, 0⟩, ⟨tg1, iter1, ifs1, 0⟩]) (scope := scope) (pos := pos) (d := 0) (acc := .ref D) (iter := iter) (R := compPost (model X.prog X.w) X.A X.xe none (EP X pins σ Q) (.ref D) t3.heap.objs.size) rfl hc turn_out pg pt
    (rest_next (X := X.blk t3 H3 scope (compEnvC scope cl t3.heap.objs.size X.env) fp) (elt := elt) (gens := [⟨tg, iter, ifs, 0⟩, ⟨tg1, iter1, ifs1, 0⟩]) (scope := scope) (pos := pos) (acc := .ref D) (iter1 := iter1) (d := 1) rfl hc (hs1 _) rfl rfl (fun _ => turn_in) pi1 pg1 pt1 (rest_add (X := X.blk t3 H3 scope (compEnvC scope cl t3.heap.objs.size X.env) fp) (D := D) rfl pe) sub) T I4 st4 fo4 q fun t5 H5 I5 z => ?_
  · exact clause_start (X := X.blk t3 H3 scope (compEnvC scope cl t3.heap.objs.size X.env) fp) (d := 0) rfl rfl run T st4
  · have nC : H5 t3.heap.objs.size = none := I5.free
    have back : Inv X pins σ H5 t5 := I3.call' (ch := fp) I5.os I5.base I5.hok I5.bare fun b hb => ⟨(fo3 b hb).1.2.2.2.1, (fo3 b hb).1.2.1, (fo3 b hb).1.2.2.2.2.1, (fo3 b hb).1.2.2.2.2.2⟩
    obtain ⟨m, hn, _⟩ := I5.loc
    obtain ⟨f0, f1, f2, f3, f4, f5⟩ := I3.fpOk (Nat.le_refl _) nC
    refine ⟨m, hn, fun h'' sb => ?_⟩
    exact ⟨.ref D, H5, back.turned (t' := t5.toks) (fun b o hb e => (sb.2 b hb).trans e) f0 f1 f3 f4 f5, rfl, z⟩
theorem w_sc2 {w : World} {wi wi1 : TI} {g g1 : TG} {tt tt1 : TT} {te : TE} {vs vs1 : List Nat} {σ : L2.St} {H : Hp} {Q : VK} (q : wi σ H fun J H1 => ∀ D, H1 D = none → ClQ J g tt (tNext1 wi1 g1 tt1 (tAdd w D te) vs1) vs σ (upd H1 D (SetO w D (fun _ => false) 0)) (Q (.ref D))) : tSc2 w wi g tt wi1 g1 tt1 te vs vs1 σ H Q := q
/-- a clause over a tuple that stands still -/
theorem cl_tup {K : PySem.W.Frag} {a : Addr} {xs : List V} {g : TG} {tt : TT} {tb : L2.St → Hp → (Hp → Prop) → Prop} {vs : List Nat} {σ : L2.St} {H : Hp} {Z : Hp → Prop} (Pv : Nat → Hp → Prop) (h0 : Pv 0 H) (hl : ∀ i H, i ≤ xs.length → Pv i H → SqT K H a xs)
    (step : ∀ i x H, xs[i]? = some x → Pv i H → g x (wipe σ vs) H fun σ2 H2 => wipe σ2 vs = wipe σ vs ∧ tt σ2 H2 fun b H3 => if b = true then tb σ2 H3 (Pv (i + 1)) else Pv (i + 1) H3) (last : ∀ H, Pv xs.length H → Z H) : ClQ (Itt K a) g tt tb vs σ H Z := by
  refine ⟨fun i m G => m = xs.length - i ∧ i ≤ xs.length ∧ Pv i G, ⟨_, rfl, Nat.zero_le _, h0⟩, ?_⟩
  rintro i m G ⟨rfl, hi, p⟩
  have sq := hl i G hi p
  rcases Nat.lt_or_ge i xs.length with lt | ge
  · refine .inr ⟨⟨xs, xs[i], sq, List.getElem?_eq_getElem lt⟩, Pv (i + 1), fun G' p' => ⟨_, by omega, rfl, lt, p'⟩, fun x G' ⟨e, y⟩ => ?_⟩
    subst e
    exact step i x G' (y xs sq) p
  · obtain rfl : i = xs.length := by omega
    exact .inl ⟨⟨xs, sq, Nat.le_refl _⟩, last G p⟩
end
end KG

set_option Elab.async false
set_option linter.all false
set_option maxRecDepth 100000
set_option maxHeartbeats 1000000
/-! KF: for i, c in enumerate(x), x a text. -/
namespace KG
open PySem PySem.Spec PySem.Calls PyProof.Rows L2
/-- the signs of x, each with its index in a new pair -/
def Iten (x : Str) : It :=
  ⟨fun i _ => i < x.cps.size, fun i H v H' => ∃ T c, v = .ref T ∧ H T = none ∧ H' = upd H T (.tup [.int (i : Nat), .str ⟨#[c]⟩]) ∧ x.cps[i]? = some c, fun i _ => i = x.cps.size⟩
theorem draws_str {prog : Program} {w : World} {A : Around} (hh : A.handled = none) (it : Addr) (x : Str) (t : Tok) :
    Draws prog w A it [it] x.cps.size (fun i v => ∃ c u, x.cps[i]? = some c ∧ v = .str ⟨#[c]⟩ u) (fun i h => h.IsStrIter it (strIterType x) x t i) := by
  unfold strIterType
  split
  · exact Draws.strAscii hh it x t
  · exact Draws.strWide hh it x t
theorem turn_enumS {P : Program} {w : World} {K : PySem.W.Frag} {elts : List Expr} {kk : Nat} {tpos : Pos} (x : Str) (t : Tok) (e it : Addr) :
    Turn P w K (.Tuple elts kk tpos) (Iten x) [e, it] e (fun i h => (∃ old, IsEnum h e it ((i : Nat) : Int) old) ∧ h.IsStrIter it (strIterType x) x t i ∧ e ≠ it) where
  mem := List.mem_cons_self
  obj := fun i h z b hb => by
    obtain ⟨⟨old, ee⟩, ⟨ob, e1, _, e3⟩, _⟩ := z
    rcases List.mem_cons.mp hb with q | q
    · exact ⟨_, q ▸ ee, fun v y => by cases y⟩
    · rw [List.mem_singleton.mp q]
      exact ⟨ob, e1, fun v y => by rw [e3] at y; cases y⟩
  keep := fun i h h' z k => by
    obtain ⟨⟨old, ee⟩, ⟨ob, e1, e2⟩, ne⟩ := z
    exact ⟨⟨old, k _ List.mem_cons_self _ ee⟩, ⟨ob, k _ (List.mem_cons_of_mem _ List.mem_cons_self) _ e1, e2⟩, ne⟩
  item := by
    intro X h1 h2 h3 hc i pins s σ H E I fo z go
    subst h1 h2 h3
    obtain ⟨⟨old, ee⟩, si, ne⟩ := z
    have le : e < s.heap.objs.size := Heap.lt_size ee
    have li : it < s.heap.objs.size := by
      obtain ⟨_, y, _⟩ := si
      exact Heap.lt_size y
    have nef : e ∉ [it] := fun y => ne (List.mem_singleton.mp y)
    have D := draws_str (prog := X.prog) (w := X.w) (A := X.A.in1) (I.ok.hd hc) it x t
    refine wpAny_pyNext_enum_itemD D ee si go ne nef fun u h' tk ⟨c, tu, ec, eu⟩ out si' ht _ kk => ?_
    subst eu
    refine ⟨_, rfl, wpAny_letOwnedTupleGo_enum (s := { s with heap := h', toks := tk + 1 }) out fun h'' ee' sb => ?_⟩
    have ht2 := (sb.2 _ (Nat.ne_of_gt le)).trans ht
    have made : ObjOk X.prog X.w (upd H s.heap.objs.size (.tup [.int (i : Nat), .str ⟨#[c]⟩])) h'' s.heap.objs.size (.tup [.int (i : Nat), .str ⟨#[c]⟩]) :=
      ⟨by show 2 ≤ sizeLine; decide, [.int i tk, .str ⟨#[c]⟩ tu], .cons ⟨_, rfl⟩ (.cons ⟨_, rfl⟩ .nil), ⟨_, ht2, rfl, _, rfl⟩⟩
    have I2 := I.turnedNew (t' := tk + 1) (ch := [e, it]) (fun b ob hb y => by
      have n1 : b ≠ e := fun q => hb (by rw [q]; exact List.mem_cons_self)
      have n2 : b ≠ it := fun q => hb (by rw [q]; exact List.mem_cons_of_mem _ List.mem_cons_self)
      exact (sb.2 b n1).trans (kk b ob n1 n2 y)) fo (Nat.le_refl _) made
    refine ⟨.ref s.heap.objs.size, _, I2, rfl, ⟨_, c, rfl, I.hok.fresh (Nat.le_refl _), rfl, ec⟩, ⟨⟨.str ⟨#[c]⟩ tu, ?_⟩, ?_, ne⟩, fun b hb => ?_⟩
    · have e1 : ((i + 1 : Nat) : Int) = (i : Int) + 1 := by omega
      rw [e1]
      exact ee'
    · obtain ⟨ob, y, r⟩ := si'
      exact ⟨ob, (sb.2 it ne.symm).trans y, r⟩
    · have lb : b < s.heap.objs.size := by
        rcases List.mem_cons.mp hb with q | q
        · exact q ▸ le
        · exact (List.mem_singleton.mp q) ▸ li
      rw [upd_ne (Nat.ne_of_lt lb)]
      exact (fo b hb).1
  done := by
    intro X h1 h2 h3 hc i pins s σ H E I fo z stop
    subst h1 h2 h3
    obtain rfl : i = x.cps.size := stop
    obtain ⟨⟨old, ee⟩, si, ne⟩ := z
    obtain ⟨g0, g1, g2, g3, g4, g5⟩ := fo it (List.mem_cons_of_mem _ List.mem_cons_self)
    have D := draws_str (prog := X.prog) (w := X.w) (A := X.A.in1) (I.ok.hd hc) it x t
    exact wpAny_pyNext_enum_endD D ee si fun h' k => ⟨rfl, I.turned (t' := s.toks) (fun b o hb y => k b o hb y) g0 g1 g3 g4 g5⟩
  self := fun A i s Q E z h => by
    obtain ⟨⟨_, ee⟩, _⟩ := z
    exact wpAny_pyIter_enum ee h
def iEnumS (ta : TA) : TI := fun σ H R => ta σ H fun vs H1 => ∃ x, vs = [.str x] ∧ R (Iten x) H1
theorem pi_enumS {X : Cx} {e : Expr} {ta : TA} {p pos tpos : Pos} {elts : List Expr} {kk : Nat} (hg : Gl X "enumerate") (hm : X.mg "enumerate" = none) (ha : PA X [e] ta) (hs : starEach [e] X.env = [(false, eval e X.env)] := by rfl) :
    PI X (.Tuple elts kk tpos) (.Call (.Name "enumerate" p) [e] [] pos) (iEnumS ta) := by
  refine ⟨fun pins s σ H R I h => Call_ (ld_blt I hg hm boot_enumerate (PyProof.Rows.callWith_type1 (thn (ha.run pos pins s σ H _ I h) fun us t ⟨vs, H1, I1, r, x, ev, q⟩ => ?_) hs rfl))⟩
  subst ev
  obtain ⟨u, eu, ru⟩ := vals1 r
  obtain ⟨tx, rfl⟩ := ru
  have eu' : us = [.str x tx] := eu
  subst eu'
  refine call_enumerate_str fun h' ee si sz k => wpAny_pyIter_enum ee ?_
  have I2 : Inv X pins σ H1 { t with heap := h' } := I1.kept (t' := t.toks) k
  refine ⟨_, [t.heap.objs.size + 1, t.heap.objs.size], _, _, H1, rfl, I2, turn_enumS x tx _ _, ⟨⟨_, ee⟩, si, Nat.succ_ne_self _⟩, fun b hb => ?_, q⟩
  have ge : t.heap.objs.size ≤ b := by
    rcases List.mem_cons.mp hb with y | y
    · rw [y]
      exact Nat.le_succ _
    · exact Nat.le_of_eq (List.mem_singleton.mp y).symm
  exact I1.fpOk ge (I1.hok.fresh ge)
end KG

set_option Elab.async false
set_option linter.all false
set_option maxRecDepth 100000
set_option maxHeartbeats 1000000
/-! KW2: classmethods with defaults, by keywords alone; an own object called by keywords alone. -/
namespace KG
open PySem PySem.Spec PySem.Calls PyProof.Rows L2
section
variable {X : Cx} {CX : CXT} {k : Nat} {C p g f : Addr} {mc : Value} {fd : FuncData} {ps ks : List Str} {sp : Sp} {E : XK} {o e : Expr} {es : List Expr} {kws : List Keyword} {m x : Str} {pos apos : Pos} {ta : TE} {t tk : TA} {dvs : List V} {ds : List Value} {gg : List Value → List Value → List Value} {gV : List V → List V → List V}
/-- o.m(e, ..), o the class, m a classmethod, the last arguments by default -/
def tCmD (C : Addr) (sp : Sp) (dvs : List V) (E : XK) (ta : TE) (t : TA) : TE := fun σ H Q => ta σ H fun x H1 => x = .ref C ∧ t σ H1 fun vs H2 => sp (.ref C :: (vs ++ dvs)) H2 Q E
theorem run_cm {q : Addr} {pins : List (Addr × Obj)} {σ : L2.St} {H : Hp} {s : Shared} {Q : VK} {us zs : List Value} {kw : List (Str × Value)} {vs : List V} (F : Gd X.prog X.w X.K X.mg X.base CX k g fd ps sp) (rm : Room k X.A) (gd : X.A.guards = some []) (hx : Passes CX X E)
    (J : Inv X ((q, PySem.W.methodObj (.ref g) (.ref C)) :: pins) σ H s) (bt : BindsTo s fd ⟨.ref C :: us, kw⟩ (ps.zip zs)) (r : Vals vs zs) (z : sp vs H Q E) : wpAny (model X.prog X.w) X.A (call (.ref q) us kw) (EP X pins σ Q) X.xe s := by
  have run : wpAny (model X.prog X.w) X.A (call (.ref q) us kw) (EP X ((q, PySem.W.methodObj (.ref g) (.ref C)) :: pins) σ Q) X.xe s := by
    refine wpAny_call (PySem.W.method_call (ClX.pin_at J) (codeAny_mono (F.go X.A X.stack s H ⟨.ref C :: us, kw⟩ zs vs Q E rm gd J.env0 bt r z) fun out s4 z4 => ?_))
    match out, z4 with
    | .error er, z4 => exact hx _ σ H s er s4 J z4
    | .ok (.ret v), z4 => exact J.after z4
  exact thn run fun _ _ y => ClX.unpinE y
theorem pe_gcmD {pl : Sem Bool} (he : PE X o ta) (r : ClX.CRead X.K C mc) (c : ClX.CMet X.K C mc m p g) (F : Gd X.prog X.w X.K X.mg X.base CX k g fd ps sp) (rm : Room k X.A) (gd : X.A.guards = some []) (hb : Binds X.K fd ps ds) (hd : Vals dvs ds) (hx : Passes CX X E) (ha : PA X (e :: es) t)
    (hst : starEach (e :: es) X.env = (false, eval e X.env) :: starEach es X.env := by rfl) (hpl : (backTo pos (starEach es X.env)).any (·.1) = false := by rfl)
    (ht : eval (.Call (.Attribute o m apos) (e :: es) [] pos) X.env = (do
      let w ← eval o X.env
      standAt apos.atName
      let (g, a) ← holding [w] (getMethod w m pl)
      callWith pos g a (backTo pos (starEach (e :: es) X.env)) (backToKw pos (keywordEach [] X.env))) := by rfl) :
    PE X (.Call (.Attribute o m apos) (e :: es) [] pos) (tCmD C sp dvs E ta t) := by
  refine ⟨fun pins s σ H Q I z => PySem.W.methodCall_KW (pl := pl) (thn (he.run pins s σ H _ I z) fun u s1 z1 => ?_) ht⟩
  obtain ⟨_, H1, J, ru, rfl, q⟩ := z1
  obtain rfl : u = Value.ref C := ru
  refine ClX.getmethcm_ok J r c fun s2 J2 => ClX.callwith_cm J2 (ClX.base_none J (Nat.le_refl _)) c.fi (thn (ha.run pos _ s2 σ H1 _ J2 q) fun us s3 z3 => ?_) hst hpl
  obtain ⟨vs, H2, J3, rv, q2⟩ := z3
  have all : Vals (V.ref C :: (vs ++ dvs)) (Value.ref C :: (us ++ ds)) := .cons rfl (rv.append hd)
  have bt : BindsTo s3 fd ⟨.ref C :: us, []⟩ (ps.zip (.ref C :: (us ++ ds))) := hb s3 (.ref C :: us) J3.kIn (by
    have := F.len _ _ _ _ q2
    rw [all.length] at this
    exact this)
  exact ⟨⟨ClX.pin_at J3, J3.kIn⟩, run_cm F rm gd hx J3 bt all q2⟩
/-- o.m(k = v, ..), o the class, m a classmethod -/
def tCmK (C : Addr) (j : Nat) (sp : Sp) (gV : List V → List V → List V) (E : XK) (ta : TE) (tk : TA) : TE := fun σ H Q => ta σ H fun x H1 => x = .ref C ∧ tk σ H1 fun zs H2 => zs.length = j ∧ sp (gV [.ref C] zs) H2 Q E
theorem pe_gcmK {pl : Sem Bool} (he : PE X o ta) (r : ClX.CRead X.K C mc) (c : ClX.CMet X.K C mc m p g) (F : Gd X.prog X.w X.K X.mg X.base CX k g fd ps sp) (rm : Room k X.A) (gd : X.A.guards = some []) (hb : KBn X.K fd ps 1 ks gg gV) (hx : Passes CX X E) (hkw : PK X kws tk)
    (hall : (backToKw pos (keywordEach kws X.env)).all (·.1.isSome) = true := by rfl) (hks : (backToKw pos (keywordEach kws X.env)).filterMap (·.1) = ks := by rfl)
    (hpl : ((backTo pos (starEach [] X.env)).any (·.1) || (backToKw pos (keywordEach kws X.env)).any (·.1.isNone)) = false := by rfl)
    (ht : eval (.Call (.Attribute o m apos) [] kws pos) X.env = (do
      let w ← eval o X.env
      standAt apos.atName
      let (g, a) ← holding [w] (getMethod w m pl)
      callWith pos g a (backTo pos (starEach [] X.env)) (backToKw pos (keywordEach kws X.env))) := by rfl) :
    PE X (.Call (.Attribute o m apos) [] kws pos) (tCmK C ks.length sp gV E ta tk) := by
  refine ⟨fun pins s σ H Q I z => PySem.W.methodCall_KW (pl := pl) (thn (he.run pins s σ H _ I z) fun u s1 z1 => ?_) ht⟩
  obtain ⟨_, H1, J, ru, rfl, q⟩ := z1
  obtain rfl : u = Value.ref C := ru
  refine ClX.getmethcm_ok J r c fun s2 J2 => ?_
  refine PySem.W.callWith_of hpl (PySem.W.keeps_M (self := .ref C) c.fi) (evalArgs_kw2_nil hall (thn (hkw.run pos _ s2 σ H1 _ J2 q) fun ws s3 z3 => ?_))
  obtain ⟨zs, H2, J3, rz, lz, q2⟩ := z3
  refine ⟨⟨ClX.pin_at J3, J3.kIn⟩, ?_⟩
  rw [hks]
  have r1 : Vals [V.ref C] [Value.ref C] := .cons rfl .nil
  exact run_cm F rm gd hx J3 (hb.to s3 [.ref C] ws J3.kIn rfl (rz.length.symm.trans lz)) (hb.rel r1 rz) q2
/-- o(k = v, ..), o an own object that a name holds -/
def tOwnK (C : Addr) (j : Nat) (sp : Sp) (gV : List V → List V → List V) (E : XK) (n : Nat) (tk : TA) : TE := fun σ H Q => ∃ a : Addr, σ[n]? = some (some (.ref a)) ∧ tk σ H fun zs H1 => zs.length = j ∧ ∃ dx fs, H1 a = some (.ins C dx fs) ∧ sp (gV [.ref a] zs) H1 Q E
theorem pe_ownK {n : Nat} (O : PySem.W.findIn X.K (.ref C) "__call__" = some (some (.ref f))) (fn : PySem.W.isFn X.K (.ref f) = true) (fi : PySem.W.fnIn X.K f = true) (F : Gd X.prog X.w X.K X.mg X.base CX k f fd ps sp) (rm : Room k X.A) (gd : X.A.guards = some []) (hb : KBn X.K fd ps 1 ks gg gV) (hx : Passes CX X E)
    (hv : PE X (.Name x apos) (tVar n)) (hkw : PK X kws tk) (hall : (backToKw pos (keywordEach kws X.env)).all (·.1.isSome) = true := by rfl) (hks : (backToKw pos (keywordEach kws X.env)).filterMap (·.1) = ks := by rfl)
    (hpl : ((backTo pos (starEach [] X.env)).any (·.1) || (backToKw pos (keywordEach kws X.env)).any (·.1.isNone)) = false := by rfl) :
    PE X (.Call (.Name x apos) [] kws pos) (tOwnK C ks.length sp gV E n tk) := by
  refine ⟨fun pins s σ H Q I z => ?_⟩
  obtain ⟨a, ea, q⟩ := z
  refine wpAny_Call_Name_kw (thn (hv.run pins s σ H (fun v H' => v = .ref a ∧ tk σ H' fun zs H1 => zs.length = ks.length ∧ ∃ dx fs, H1 a = some (.ins C dx fs) ∧ sp (gV [.ref a] zs) H1 Q E) I ⟨_, ea, rfl, q⟩) fun u s1 z1 => ?_)
  obtain ⟨_, H1, J, ru, rfl, q1⟩ := z1
  obtain rfl : u = Value.ref a := ru
  have body : wpAny (model X.prog X.w) X.A (evalArgs (.ref a) true (backTo pos (starEach [] X.env)) (backToKw pos (keywordEach kws X.env))) (fun b s2 => (∃ ox od, PySem.W.InstAt s2.heap a ox C od ∧ ox.data = .plain) ∧ wpAny (model X.prog X.w) X.A (call (.ref a) b.pos b.kw) (EP X pins σ Q) X.xe s2) X.xe s1 := by
    refine evalArgs_kw2_nil hall (thn (hkw.run pos pins s1 σ H1 _ J q1) fun ws s2 z2 => ?_)
    obtain ⟨zs, H2, J2, rz, lz, dx, fs, ha, q2⟩ := z2
    obtain ⟨mA, Z, _⟩ := ins_get J2.hok ha
    obtain ⟨od, Z, zd⟩ := Z.look
    refine ⟨⟨_, od, Z, by first | exact zd | rfl⟩, wpAny_call (PySem.W.kco_code J2.kIn Z (by first | exact zd | rfl) O fn fi ?_)⟩
    rw [hks]
    have r1 : Vals [V.ref a] [Value.ref a] := .cons rfl .nil
    refine codeAny_mono (F.go X.A X.stack s2 H2 ⟨[.ref a], ks.zip ws⟩ _ _ _ E rm gd J2.env0 (hb.to s2 [.ref a] ws J2.kIn rfl (rz.length.symm.trans lz)) (hb.rel r1 rz) q2) fun out s' hq => ?_
    match out, hq with
    | .error e, hq => exact hx pins σ H2 s2 e s' J2 hq
    | .ok (.ret v), hq => exact J2.after hq
  unfold callWith
  refine wpAny_bind (wpAny_holding (wpAny_mono body (fun b s2 z2 => wpAny_bind (wpAny_standAt ?_)) fun _ _ y => y))
  obtain ⟨⟨ox, od, Z, zd⟩, run⟩ := z2
  simp only [hpl]
  refine wpAny_bind ((PySem.W.kco_keeper (M := model X.prog X.w) Z zd).here ?_)
  have behind : ∀ {tt : Sem Value}, wpAny (model X.prog X.w) X.A tt (EP X pins σ Q) X.xe s2 → wpAny (model X.prog X.w) X.A (tt >>= fun r => holding [r] point >>= fun _ => pure r) (EP X pins σ Q) X.xe s2 := fun y =>
    wpAny_bind (wpAny_mono y (fun r s3 y3 => wpAny_bind (wpAny_holding (wpAny_point (wpAny_pure y3)))) fun _ _ y3 => y3)
  exact behind (wpAny_operateT run)
end
end KG

set_option Elab.async false
set_option linter.all false
set_option maxRecDepth 100000
set_option maxHeartbeats 1000000
/-! KC2: an instance made by the class's name alone, all of its __init__'s arguments by default. -/
namespace KG
open PySem PySem.Spec PySem.Calls PyProof.Rows L2
theorem pe_gmake0 {X : Cx} {CX : CXT} {k : Nat} {C f : Addr} {fd : FuncData} {ps : List Str} {sp : Sp} {E : XK} {x : Str} {p pos : Pos} {ds : List Value} {dvs : List V} (M : Mk X.K C f) (F : Gd X.prog X.w X.K X.mg X.base CX k f fd ps sp) (rm : Room (k + 1) X.A) (gd : X.A.guards = some []) (gl : Gl X x) (at_ : X.mg x = some (.ref C))
    (hb : Binds X.K fd ps ds) (hd : Vals dvs ds) (hx : Passes CX X E) (hdb : (x == ("__debug__" : Str)) = false := by decide) : PE X (.Call (.Name x p) [] [] pos) (tMake C sp dvs E tNil) := by
  refine ⟨fun pins s σ H Q I h => wpAny_Call_Name_kw (ld_glob I gl at_ (PySem.W.callWith_K0 (first := []) I.kIn M.kp ?_) hdb)⟩
  have rr : ∀ y : Addr, Vals (V.ref y :: dvs) (Value.ref y :: ds) := fun y => .cons rfl hd
  have hl : ∀ y : Addr, (Value.ref y :: ds).length = ps.length := fun y => by
    have e := (rr y).length
    have q1 := h (s.heap.objs.size + 1) s.heap.objs.size (I.hok.fresh (Nat.le_succ _)) (I.hok.fresh (Nat.le_refl _)) (Nat.ne_of_lt (Nat.lt_succ_self _))
    have e1 := F.len _ _ _ _ q1
    rw [← e, ← e1]
    simp
  exact run_gmake (us := []) (fun y => y :: ds) (fun y => y :: dvs) M F rm gd (fun s y KX => hb s [.ref y] KX (hl y)) rr hx I h
end KG

set_option Elab.async false
set_option linter.all false
set_option maxRecDepth 100000
set_option maxHeartbeats 1000000
/-! KY: a choice within a generator's body. -/
namespace KG
open PySem PySem.Spec PySem.Calls PyProof.Rows L2
section
variable {X : Cx} {test : Expr} {a b : List Stmt} {pos : Pos} {tc : TT} {ta tb : TGn}
def tGIf (tc : TT) (ta tb : TGn) : TGn := fun D ys σ H => tc σ H fun d H1 => if d = true then ta D ys σ H1 else tb D ys σ H1
theorem gs_if (hc : PT X test tc) (ha : GSs X a ta) (hb : GSs X b tb) : GS X (.If test a b pos) (tGIf tc ta tb) := by
  refine ⟨fun A S ip R n ys s₀ c fs K J gd lv s σ H D g hn k hI z => ?_⟩
  obtain ⟨acc, cc, r, I⟩ := hI
  rw [exec_If]
  refine seg_at ?_
  show Seg _ _ _ _ _ _ _ ((isTrue test X.env (eval test X.env) >>= fun d => if d = true then execs a X.env else execs b X.env).wrap K J gd lv) fs s
  rw [Sem.bind_eq_wrap', Sem.wrap_wrap]
  refine seg_wrap ?_
  rw [g.over]
  refine wpAny_mono (hc.run _ s σ H _ I z) (fun d s' z1 => ?_) fun x s' hx => k.exc n s₀ x s' hx
  obtain ⟨H1, I1, q⟩ := z1
  cases d with
  | true => exact ha.run A S ip R n ys s₀ c fs K J gd lv s' σ H1 D g hn k ⟨acc, cc, r, I1⟩ q
  | false => exact hb.run A S ip R n ys s₀ c fs K J gd lv s' σ H1 D g hn k ⟨acc, cc, r, I1⟩ q
end
end KG

set_option Elab.async false
set_option linter.all false
set_option maxRecDepth 100000
set_option maxHeartbeats 1000000
namespace KG
open PySem PySem.Spec PySem.Calls PyProof.Rows L2
section
variable {M : Model} {A : Around} {R : GenEnd} {Y : Protocol} {n : Nat} {s₀ s : Shared} {c : Code} {fs : List Frame} {env : Env} {K : Flow → Sem PySem.Fin} {J : Value → Sem PySem.Fin} {gd : Bool → Bool} {lv : List Value → List Value} {target iter : Expr} {body : List Stmt} {pos : Pos}
/-- a loop over items within a generator's body: up to the loop's own code -/
theorem seg_forIn (hs : ∀ x, foldedSetIterable iter env x = pure x)
    (h : wpAny M (A.over c fs) (eval iter env) (fun x s1 => wpAny M (A.over c fs) (pyIter x) (fun it s2 => ∀ p, Seg M A R Y n s₀ (.forLoop target it body [] env) (M.den (.forLoop target it body [] env))
      (.ret (fun r => ((match r with | .ok f => (.pure f : Sem Flow) | .error e => .raise e).onRaise (cameBack env)).wrap K J gd lv) none (gd false) (lv []) c p [] :: fs) s2) (fun x s' => Seg M A R Y n s₀ c (J x) fs s') s1) (fun x s' => Seg M A R Y n s₀ c (J x) fs s') s) :
    Seg M A R Y n s₀ c ((exec (.For target iter body [] pos) env).wrap K J gd lv) fs s := by
  rw [exec_For]
  refine seg_at ?_
  show Seg _ _ _ _ _ _ _ ((eval iter env >>= fun v => foldedSetIterable iter env v >>= fun x => standAt iter.pos >>= fun _ => holding [x] (pyIter x) >>= fun it => runOwn (.forLoop target it body [] env) env).wrap K J gd lv) fs s
  rw [Sem.bind_eq_wrap', Sem.wrap_wrap]
  refine seg_wrap (wpAny_mono h (fun x s1 h1 => ?_) fun _ _ z => z)
  rw [hs x]
  show Seg _ _ _ _ _ _ _ ((standAt iter.pos >>= fun _ => holding [x] (pyIter x) >>= fun it => runOwn (.forLoop target it body [] env) env).wrap K J gd lv) fs s1
  refine seg_at ?_
  show Seg _ _ _ _ _ _ _ ((holding [x] (pyIter x) >>= fun it => runOwn (.forLoop target it body [] env) env).wrap K J gd lv) fs s1
  rw [Sem.bind_eq_wrap', Sem.wrap_wrap]
  refine seg_wrap (wpAny_holding (wpAny_mono h1 (fun it s2 h2 => ?_) fun _ _ z => z))
  exact seg_call h2
end
section
variable {prog : Program} {w : World} {A : Around} {R : GenEnd} {Y : Protocol} {n : Nat} {s₀ s : Shared} {fs : List Frame} {env : Env} {target : Expr} {it : Value} {body : List Stmt}
/-- an exception in a loop's code within a generator's body -/
def SegX (prog : Program) (w : World) (A : Around) (R : GenEnd) (Y : Protocol) (n : Nat) (s₀ : Shared) (c : Code) (fs : List Frame) (env : Env) (x : Value) (s : Shared) : Prop :=
  Seg (model prog w) A R Y n s₀ c ((do noteFrame x env; theTreesLotGoes x : Sem Unit).bind fun _ => (.raise x : Sem PySem.Fin)) fs s
theorem seg_forTurn
    (h : wpAny (model prog w) (A.over (.forLoop target it body [] env) fs) (pyNext it) (fun r s1 => match r with
      | none => Seg (model prog w) A R Y n s₀ (.forLoop target it body [] env) (.pure (.again (.block [] env))) fs s1
      | some v => wpAny (model prog w) (A.over (.forLoop target it body [] env) fs) (letOwnedTupleGo target it v) (fun _ s2 => wpAny (model prog w) (A.over (.forLoop target it body [] env) fs) (assign target env v) (fun _ s3 =>
          Seg (model prog w) A R Y n s₀ (.forLoop target it body [] env) ((execs body env).wrap (fun f => match f with
            | .next | .cont => .pure (.again (.forLoop target it body [] env))
            | .brk => .pure (.done .next)
            | .ret v => .pure (.done (.ret v))) (fun x => (do noteFrame x env; theTreesLotGoes x : Sem Unit).bind fun _ => .raise x) id id) fs s3)
          (SegX prog w A R Y n s₀ (.forLoop target it body [] env) fs env) s2) (SegX prog w A R Y n s₀ (.forLoop target it body [] env) fs env) s1)
      (SegX prog w A R Y n s₀ (.forLoop target it body [] env) fs env) s) :
    Seg (model prog w) A R Y n s₀ (.forLoop target it body [] env) ((model prog w).den (.forLoop target it body [] env)) fs s := by
  show Seg _ A R Y n s₀ _ ((forTurn target it body [] env).onRaise (fun x => do noteFrame x env; theTreesLotGoes x)) fs s
  rw [Sem.onRaise_eq_wrap]
  unfold forTurn
  refine seg_at ?_
  show Seg _ A R Y n s₀ _ (Sem.wrap _ _ _ _ ((pyNext it).onRaise (fun _ => standAt { target.pos with line := 0 }) >>= _)) fs s
  rw [Sem.bind_eq_wrap', Sem.wrap_wrap]
  refine seg_wrap (wpAny_onRaise (wpAny_mono h (fun r s1 h1 => ?_) fun x s1 h1 => wpAny_standAt h1))
  cases r with
  | none => exact h1
  | some v =>
    show Seg _ A R Y n s₀ _ (Sem.wrap _ _ _ _ (letOwnedTupleGo target it v >>= _)) fs s1
    rw [Sem.bind_eq_wrap', Sem.wrap_wrap]
    refine seg_wrap (wpAny_mono h1 (fun _ s2 h2 => ?_) fun x s2 h2 => h2)
    show Seg _ A R Y n s₀ _ (Sem.wrap _ _ _ _ (assign target env v >>= _)) fs s2
    rw [Sem.bind_eq_wrap', Sem.wrap_wrap]
    refine seg_wrap (wpAny_mono h2 (fun _ s3 h3 => ?_) fun x s3 h3 => h3)
    show Seg _ A R Y n s₀ _ (Sem.wrap _ _ _ _ (execs body env >>= _)) fs s3
    rw [Sem.bind_eq_wrap', Sem.wrap_wrap]
    refine Eq.mp (congrArg (fun z => Seg (model prog w) A R Y n s₀ (.forLoop target it body [] env) z fs s3) (Sem.wrap_congr (execs body env) id id (fun f => ?_) (fun e => ?_))) h3
    · cases f <;> rfl
    · rfl
end
end KG

set_option Elab.async false
set_option linter.all false
set_option maxRecDepth 100000
set_option maxHeartbeats 1000000
namespace KG
open PySem PySem.Spec PySem.Calls PyProof.Rows L2
section
variable {X : Cx} {tg iter : Expr} {body : List Stmt} {wi : TI} {g : TG} {tb : TGn} {pos : Pos}
/-- for within a generator's body: W tells turn, measure, what is out, the places, the heap -/
def tGFor (wi : TI) (g : TG) (tb : TGn) : TGn := fun D ys σ H => wi σ H fun J H1 => ∃ W : Nat → Nat → List V → L2.St → Hp → Prop, (∃ m, W 0 m ys σ H1) ∧ ∀ i m ys σ H, W i m ys σ H →
  (J.stop i H ∧ D.nx ys σ H) ∨ (J.go i H ∧ ∃ N : List V → L2.St → Hp → Prop, (∀ ys' σ' H', N ys' σ' H' → ∃ m', m' < m ∧ W (i + 1) m' ys' σ' H') ∧ ∀ x H', J.yld i H x H' → g x σ H' fun σ2 H2 => tb { D with nx := N, ct := N, bk := D.nx } ys σ2 H2)
theorem fp_pins {pins pins' : List (Addr × Obj)} {H H' : Hp} {b : Addr} (f : FpOk X pins H b) (n : H' b = none) (e : pins'.map (·.1) = pins.map (·.1)) : FpOk X pins' H' b := by
  obtain ⟨_, f1, f2, f3, f4, f5⟩ := f
  refine ⟨n, f1, f2, f3, f4, fun p hp => ?_⟩
  rcases List.mem_append.mp hp with h | h
  · exact f5 p (List.mem_append_left _ h)
  · have : p.1 ∈ pins.map (·.1) := e ▸ List.mem_map_of_mem h
    obtain ⟨q, hq, eq⟩ := List.mem_map.mp this
    exact eq ▸ f5 q (List.mem_append_right _ hq)
theorem gs_for (hp : PassesOwn (model X.prog X.w) X.A X.env X.xe) (hc : X.calm = true) (hi : PI X tg iter wi) (hg : PG X tg g) (hb : GSs X body tb) (hs : ∀ x, foldedSetIterable iter X.env x = pure x := by intro _; rfl) : GS X (.For tg iter body [] pos) (tGFor wi g tb) := by
  refine ⟨fun A S ip R n ys s₀ c fs K J gd lv s σ H D gc hn k hI ht => ?_⟩
  obtain ⟨acc, cc, r, I⟩ := hI
  refine seg_forIn hs ?_
  rw [gc.over]
  refine wpAny_mono (hi.run _ s σ H _ I ht) (fun v s1 h1 => wpAny_mono h1 (fun itv s2 h2 p => ?_) fun x s' hx => k.exc n s₀ x s' hx) fun x s' hx => k.exc n s₀ x s' hx
  obtain ⟨it, fp, tn, Jt, H2, rfl, I2, T, st2, f2, W, ⟨m0, w0⟩, turn⟩ := h2
  have gl := fun (kk : Result → Sem PySem.Fin) => gc_loop (k := kk) (c' := .forLoop tg (.ref it) body [] X.env) (l := lv []) (kp := []) (p := p) gc rfl rfl
  have loop : ∀ (m i n : Nat) (ys : List V) (s₀ s : Shared) (σ : L2.St) (H : Hp) (acc : Array Value) (cc : Nat), n + ys.length = sizeLine → W i m ys σ H → Vals ys acc.toList → Inv X ((S, lstObj acc cc) :: ip) σ H s → tn i s.heap → (∀ b ∈ fp, FpOk X ((S, lstObj acc cc) :: ip) H b) →
      Seg (model X.prog X.w) A R (GY X S) n s₀ (.forLoop tg (.ref it) body [] X.env) ((model X.prog X.w).den (.forLoop tg (.ref it) body [] X.env))
        (.ret (fun r => ((match r with | .ok f => (.pure f : Sem Flow) | .error e => .raise e).onRaise (cameBack X.env)).wrap K J gd lv) none (gd false) (lv []) c p [] :: fs) s := by
    intro m
    induction m using Nat.strongRecOn with
    | ind m ih =>
      intro i n ys s₀ s σ H acc cc hn w r I st ff
      have ee : ∀ (n : Nat) (s₀ : Shared) (x : Value) (s' : Shared), X.xe x s' → SegX X.prog X.w A R (GY X S) n s₀ (.forLoop tg (.ref it) body [] X.env)
          (.ret (fun r => ((match r with | .ok f => (.pure f : Sem Flow) | .error e => .raise e).onRaise (cameBack X.env)).wrap K J gd lv) none (gd false) (lv []) c p [] :: fs) X.env x s' := fun n s₀ x s' hx => by
        unfold SegX
        rw [Sem.bind_eq_wrap]
        refine seg_wrap ?_
        rw [(gl _).over]
        refine wpAny_bind (wpAny_mono (hp x s' hx) (fun _ s'' hcb => wpAny_theTreesLotGoes ?_) fun y s'' hcb => ?_)
        · exact seg_leaf (.error x) (seg_cameBack gc k hcb)
        · exact seg_leaf (.error y) (seg_cameBack gc k hcb)
      refine seg_forTurn ?_
      rw [(gl _).over]
      rcases turn i m ys σ H w with ⟨stop, qn⟩ | ⟨go, N, hN, step⟩
      · refine wpAny_mono (T.done X rfl rfl rfl hc i _ s σ H X.xe I ff st stop) (fun o s4 z => ?_) fun x s' hx => ee n s₀ x s' hx
        obtain ⟨rfl, I4⟩ := z
        refine seg_again rfl ?_
        exact seg_leaf (.ok .next) (k.ok n ys s₀ s4 .next hn ⟨σ, H, ⟨acc, cc, r, I4⟩, qn⟩)
      · refine wpAny_mono (T.item X rfl rfl rfl hc i _ s σ H X.xe I ff st go) (fun o s4 z => ?_) fun x s' hx => ee n s₀ x s' hx
        obtain ⟨u, rfl, h4⟩ := z
        refine wpAny_mono h4 (fun _ s5 z => ?_) fun x s' hx => ee n s₀ x s' hx
        obtain ⟨x, H5, I5, r5, y5, st5, fr5⟩ := z
        have ff5 : ∀ b ∈ fp, FpOk X ((S, lstObj acc cc) :: ip) H5 b := fun b hb => fp_pins (ff b hb) (fr5 b hb) rfl
        have I6 := I5.pinned ff5 (T.obj _ _ st5)
        refine wpAny_mono (hg.run _ s5 σ H5 x u _ I6 r5 (step x H5 y5)) (fun _ s6 z => ?_) fun x s' hx => ee n s₀ x s' hx
        obtain ⟨σ6, H6, I6, q6⟩ := z
        have off : ∀ q ∈ ip ++ pinsAt fp s5.heap, q.1 ≠ S := fun q hq => (List.mem_append.mp hq).elim (fun z => gc.ip q z) fun z => by
          obtain ⟨hb, _⟩ := of_pinsAt z
          obtain ⟨_, _, _, _, _, f5⟩ := ff q.1 hb
          exact fun e => f5 (S, lstObj acc cc) (List.mem_append_right _ List.mem_cons_self) e.symm
        have gl6 : ∀ (kk : Result → Sem PySem.Fin), GC X S (ip ++ pinsAt fp s5.heap) A (.forLoop tg (.ref it) body [] X.env) (.ret kk none (gd false) (lv []) c p [] :: fs) id := fun kk => { gl kk with ip := off }
        have back : ∀ {n' : Nat} {ys' : List V} {s₀' s3 : Shared} {σ3 : L2.St} {H3 : Hp}, n' + ys'.length = sizeLine → GI X S (ip ++ pinsAt fp s5.heap) ys' σ3 H3 s3 → N ys' σ3 H3 → Seg (model X.prog X.w) A R (GY X S) n' s₀' (.forLoop tg (.ref it) body [] X.env) ((model X.prog X.w).den (.forLoop tg (.ref it) body [] X.env))
            (.ret (fun r => ((match r with | .ok f => (.pure f : Sem Flow) | .error e => .raise e).onRaise (cameBack X.env)).wrap K J gd lv) none (gd false) (lv []) c p [] :: fs) s3 := fun {n' ys' s₀' s3 σ3 H3} hn' hs n3 => by
          obtain ⟨acc3, cc3, r3, I3⟩ := hs
          obtain ⟨m', hm, w3⟩ := hN ys' σ3 H3 n3
          have I3' : Inv X (((S, lstObj acc3 cc3) :: ip) ++ pinsAt fp s5.heap) σ3 H3 s3 := I3
          refine ih m' hm (i + 1) n' ys' s₀' s3 σ3 H3 acc3 cc3 hn' w3 r3 I3'.unpinned (T.keep _ _ _ st5 fun b hb o e => (I3'.pin (b, o) (List.mem_append_right _ (List.mem_append_right _ (mem_pinsAt hb e)))).1) fun b hb => ?_
          obtain ⟨o, e, _⟩ := T.obj _ _ st5 b hb
          exact fp_pins (ff b hb) (I3'.pin (b, o) (List.mem_append_right _ (List.mem_append_right _ (mem_pinsAt hb e)))).2.1 rfl
        have low : ∀ {ys' : List V} {σ3 : L2.St} {H3 : Hp} {s3 : Shared}, GI X S (ip ++ pinsAt fp s5.heap) ys' σ3 H3 s3 → GI X S ip ys' σ3 H3 s3 := fun {ys' σ3 H3 s3} hs => by
          obtain ⟨acc3, cc3, r3, I3⟩ := hs
          have I3' : Inv X (((S, lstObj acc3 cc3) :: ip) ++ pinsAt fp s5.heap) σ3 H3 s3 := I3
          exact ⟨acc3, cc3, r3, I3'.unpinned⟩
        refine hb.run A S (ip ++ pinsAt fp s5.heap) R n ys s₀ _ _ _ _ id id s6 σ6 H6 { D with nx := N, ct := N, bk := D.nx } (gl6 _) hn ⟨fun n' ys' s₀' s3 f hn' hs => ?_, fun n' s₀' x s3 hx => ee n' s₀' x s3 hx⟩ ⟨acc, cc, r, I6⟩ q6
        cases f with
        | next => obtain ⟨σ3, H3, I3, n3⟩ := hs; exact seg_again rfl (back hn' I3 n3)
        | cont => obtain ⟨σ3, H3, I3, n3⟩ := hs; exact seg_again rfl (back hn' I3 n3)
        | brk => obtain ⟨σ3, H3, I3, q3⟩ := hs; exact seg_leaf (.ok .next) (k.ok n' ys' s₀' s3 .next hn' ⟨σ3, H3, low I3, q3⟩)
        | ret v => obtain ⟨z, σ3, H3, I3, r3, q3⟩ := hs; exact seg_leaf (.ok (.ret v)) (k.ok n' ys' s₀' s3 (.ret v) hn' ⟨z, σ3, H3, low I3, r3, q3⟩)
  exact loop m0 0 n ys s₀ s2 σ H2 acc cc hn w0 r I2 st2 f2
end
end KG
namespace KG
open PySem PySem.Spec PySem.Calls PyProof.Rows L2
/-- over whole numbers from lo on -/
theorem gfor_range {lo : Int} {n : Nat} {g : TG} {tb : TGn} {D : GEnds} {ys : List V} {σ : L2.St} {H : Hp} (Pv : Nat → List V → L2.St → Hp → Prop) (h0 : Pv 0 ys σ H)
    (each : ∀ i ys σ H, i < n → Pv i ys σ H → g (.int (lo + i)) σ H fun σ2 H2 => tb { D with nx := Pv (i + 1), ct := Pv (i + 1), bk := D.nx } ys σ2 H2) (end_ : ∀ ys σ H, Pv n ys σ H → D.nx ys σ H) :
    ∃ W : Nat → Nat → List V → L2.St → Hp → Prop, (∃ m, W 0 m ys σ H) ∧ ∀ i m ys σ H, W i m ys σ H →
      ((Itr lo n).stop i H ∧ D.nx ys σ H) ∨ ((Itr lo n).go i H ∧ ∃ N : List V → L2.St → Hp → Prop, (∀ ys' σ' H', N ys' σ' H' → ∃ m', m' < m ∧ W (i + 1) m' ys' σ' H') ∧ ∀ x H', (Itr lo n).yld i H x H' → g x σ H' fun σ2 H2 => tb { D with nx := N, ct := N, bk := D.nx } ys σ2 H2) := by
  refine ⟨fun i m ys σ H => (m + i = n) ∧ Pv i ys σ H, ⟨n, rfl, h0⟩, fun i m ys σ H w => ?_⟩
  obtain ⟨e, p⟩ := w
  cases m with
  | zero =>
    have e' : i = n := by omega
    subst e'
    exact .inl ⟨by simp [Itr], end_ _ _ _ p⟩
  | succ m =>
    have lt : i < n := by omega
    refine .inr ⟨lt, Pv (i + 1), fun ys' σ' H' p' => ⟨m, Nat.lt_succ_self m, by omega, p'⟩, fun x H' y => ?_⟩
    obtain ⟨e1, e2⟩ := y
    subst e1
    subst e2
    exact each i ys σ _ lt p
end KG

set_option Elab.async false
set_option linter.all false
set_option maxRecDepth 100000
set_option maxHeartbeats 4000000
namespace Law
open PySem PySem.Spec PySem.Calls PyProof.Rows L2 KG LamX
local macro_rules | `(tactic| walk_at "1") => `(tactic| first
  | (with_reducible refine w_var rfl ?_) | (with_reducible refine w_c ?_) | (with_reducible refine w_seq ?_) | (with_reducible refine w_asg ?_) | (with_reducible refine w_gname ?_) | (with_reducible refine w_op ?_) | (with_reducible refine w_un ?_)
  | (with_reducible refine w_add ?_) | (with_reducible refine w_sub ?_) | ((with_reducible refine' w_mod ?mo ?_); (case mo => first | assumption | decide | omega)) | (with_reducible refine w_and ?_) | (with_reducible refine w_or ?_) | (with_reducible refine w_xor ?_)
  | (with_reducible refine w_gt ?_) | (with_reducible refine w_lt ?_) | (with_reducible refine w_ge ?_) | (with_reducible refine w_le ?_) | ((with_reducible refine' w_eq ?sc ?_); (case sc => rfl)) | ((with_reducible refine' w_ne ?sc ?_); (case sc => rfl))
  | (with_reducible refine w_ret ?_) | (with_reducible refine w_next ?_) | (with_reducible refine w_ifs ?_) | (with_reducible refine w_ifx ?_) | (with_reducible refine w_test ?_) | (with_reducible refine w_tB ?_) | (with_reducible refine w_bl ?_)
  | ((with_reducible refine' w_ixL ?ixh ?ixa ?_); (case ixh => first | exact SqL.of (by assumption)); (case ixa => first | rfl | skip)) | ((with_reducible refine' w_ixT ?ixh ?ixa ?_); (case ixh => first | exact SqT.of (by assumption)); (case ixa => first | rfl | skip))
  | ((with_reducible refine' w_fld ?_)) | ((with_reducible refine' fld ?fh ?fc ?fn ?fl ?_); (case fh => assumption); (case fc => assumption); (case fn => assumption); (case fl => rfl)) | (with_reducible refine w_sfld ?_)
  | (with_reducible refine Or.inl ⟨_, rfl, ?_⟩) | (with_reducible refine w_gsub ?_) | (with_reducible refine w_andV ?_) | (with_reducible refine w_orV ?_)
  | (with_reducible refine w_nil ?_) | (with_reducible refine w_cons ?_) | (with_reducible refine w_tup ?_) | (with_reducible refine w_lst ?_) | (with_reducible refine w_and2 ?_) | (with_reducible refine w_or2 ?_) | (with_reducible refine w_not ?_) | (with_reducible refine w_cb ?_) | (with_reducible refine w_call ?_) | (with_reducible refine w_par ?_) | (with_reducible refine w_pnil ?_) | (with_reducible refine w_pcons ?_) | (with_reducible refine w_dput ?_) | (with_reducible refine w_dget ?_) | (with_reducible refine w_for ?_) | (with_reducible refine w_itup ?_) | (with_reducible refine w_ilist ?_) | (with_reducible refine w_irng ?_) | (with_reducible refine w_meth ?_) | (with_reducible refine w_make ?_) | (with_reducible refine w_makeK ?_) | (with_reducible refine w_methK ?_) | ((with_reducible refine' mth ?mh ?ml ?_); (case mh => assumption); (case ml => rfl)) | (with_reducible refine w_drop ?_))
local macro_rules | `(tactic| walk_at "go") => `(tactic| ((repeat (walk_at "1")); try dsimp only))
local macro_rules | `(tactic| walk_at "1") => `(tactic| first
  | (with_reducible refine w_notV ?_) | (with_reducible refine w_callK ?_) | (with_reducible refine w_lc ?_) | (with_reducible refine w_chain ?_) | (with_reducible refine w_neg ?_) | ((with_reducible refine' w_shr ?mo ?_); (case mo => first | assumption | omega)))
def top (i : Nat) : Stmt := PySem.Challenge.pw_keptbits_k12_whole_effects_put_together.main.body.getD i (.Pass ⟨0, 0, 0, 0⟩)
abbrev s_InvalidKind___init__ : Stmt := inClass (top 7) 0
theorem sc_InvalidKind___init__ : ScS ["self", "value"] ["self", "value"] (defScope s_InvalidKind___init__) := ⟨rfl, rfl, rfl, rfl, by decide +kernel, by decide +kernel, by decide +kernel, by decide +kernel, rfl, rfl⟩
abbrev s_check_letters : Stmt := top 12
theorem sc_check_letters : FnScope ["value", "index", "letter"] ["value"] (defScope s_check_letters) := ⟨rfl, rfl, rfl, by decide +kernel, rfl, by decide +kernel, by decide +kernel⟩
theorem bd_check_letters : BindOk "check_letters" "check_letters" s_check_letters ["value"] := fun _ _ _ _ _ _ us hl => match us, hl with | [_], _ => rfl
abbrev s_check_same_kind : Stmt := top 13
theorem sc_check_same_kind : FnScope ["a", "b"] ["a", "b"] (defScope s_check_same_kind) := ⟨rfl, rfl, rfl, by decide +kernel, rfl, by decide +kernel, by decide +kernel⟩
theorem bd_check_same_kind : BindOk "check_same_kind" "check_same_kind" s_check_same_kind ["a", "b"] := fun _ _ _ _ _ _ us hl => match us, hl with | [_, _], _ => rfl
abbrev s_ends_without_letters : Stmt := top 14
theorem sc_ends_without_letters : FnScope ["kind", "quiet", "state"] ["kind", "quiet"] (defScope s_ends_without_letters) := ⟨rfl, rfl, rfl, by decide +kernel, rfl, by decide +kernel, by decide +kernel⟩
theorem bd_ends_without_letters : BindOk "ends_without_letters" "ends_without_letters" s_ends_without_letters ["kind", "quiet"] := fun _ _ _ _ _ _ us hl => match us, hl with | [_, _], _ => rfl
abbrev s_ends_of_letter : Stmt := top 15
theorem sc_ends_of_letter : FnScope ["kind", "letter", "state"] ["kind", "letter"] (defScope s_ends_of_letter) := ⟨rfl, rfl, rfl, by decide +kernel, rfl, by decide +kernel, by decide +kernel⟩
theorem bd_ends_of_letter : BindOk "ends_of_letter" "ends_of_letter" s_ends_of_letter ["kind", "letter"] := fun _ _ _ _ _ _ us hl => match us, hl with | [_, _], _ => rfl
abbrev s_joined : Stmt := top 16
theorem sc_joined : FnScope ["first", "second", "middle", "end", "ends"] ["first", "second"] (defScope s_joined) := ⟨rfl, rfl, rfl, by decide +kernel, rfl, by decide +kernel, by decide +kernel⟩
theorem bd_joined : BindOk "joined" "joined" s_joined ["first", "second"] := fun _ _ _ _ _ _ us hl => match us, hl with | [_, _], _ => rfl
abbrev s_either : Stmt := top 17
theorem sc_either : FnScope ["first", "second", "one", "other"] ["first", "second"] (defScope s_either) := ⟨rfl, rfl, rfl, by decide +kernel, rfl, by decide +kernel, by decide +kernel⟩
theorem bd_either : BindOk "either" "either" s_either ["first", "second"] := fun _ _ _ _ _ _ us hl => match us, hl with | [_, _], _ => rfl
abbrev s_Effect___init__ : Stmt := inClass (top 18) 0
theorem sc_Effect___init__ : FnScope ["self", "kind", "ends"] ["self", "kind", "ends"] (defScope s_Effect___init__) := ⟨rfl, rfl, rfl, by decide +kernel, rfl, by decide +kernel, by decide +kernel⟩
theorem bd_Effect___init__ : BindOk "__init__" "Effect.__init__" s_Effect___init__ ["self", "kind", "ends"] := fun _ _ _ _ _ _ us hl => match us, hl with | [_, _, _], _ => rfl
abbrev s_Effect_of : Stmt := inClass (top 18) 1
theorem sc_Effect_of : FnScope ["cls", "kind", "letters", "quiet", "between", "ends", "letter"] ["cls", "kind", "letters", "quiet"] (defScope s_Effect_of) := ⟨rfl, rfl, rfl, by decide +kernel, rfl, by decide +kernel, by decide +kernel⟩
abbrev s_Effect___call__ : Stmt := inClass (top 18) 2
theorem sc_Effect___call__ : FnScope ["self", "state"] ["self", "state"] (defScope s_Effect___call__) := ⟨rfl, rfl, rfl, by decide +kernel, rfl, by decide +kernel, by decide +kernel⟩
theorem bd_Effect___call__ : BindOk "__call__" "Effect.__call__" s_Effect___call__ ["self", "state"] := fun _ _ _ _ _ _ us hl => match us, hl with | [_, _], _ => rfl
abbrev s_Effect___mul__ : Stmt := inClass (top 18) 4
theorem sc_Effect___mul__ : FnScope ["self", "other"] ["self", "other"] (defScope s_Effect___mul__) := ⟨rfl, rfl, rfl, by decide +kernel, rfl, by decide +kernel, by decide +kernel⟩
theorem bd_Effect___mul__ : BindOk "__mul__" "Effect.__mul__" s_Effect___mul__ ["self", "other"] := fun _ _ _ _ _ _ us hl => match us, hl with | [_, _], _ => rfl
abbrev s_Effect___or__ : Stmt := inClass (top 18) 5
theorem sc_Effect___or__ : FnScope ["self", "other"] ["self", "other"] (defScope s_Effect___or__) := ⟨rfl, rfl, rfl, by decide +kernel, rfl, by decide +kernel, by decide +kernel⟩
theorem bd_Effect___or__ : BindOk "__or__" "Effect.__or__" s_Effect___or__ ["self", "other"] := fun _ _ _ _ _ _ us hl => match us, hl with | [_, _], _ => rfl
abbrev s_Effect_within : Stmt := inClass (top 18) 6
theorem sc_Effect_within : FnScope ["self", "b", "state", "end"] ["self", "b"] (defScope s_Effect_within) := ⟨rfl, rfl, rfl, by decide +kernel, rfl, by decide +kernel, by decide +kernel⟩
theorem bd_Effect_within : BindOk "within" "Effect.within" s_Effect_within ["self", "b"] := fun _ _ _ _ _ _ us hl => match us, hl with | [_, _], _ => rfl
abbrev s_Effect___eq__ : Stmt := inClass (top 18) 7
theorem sc_Effect___eq__ : FnScope ["self", "other"] ["self", "other"] (defScope s_Effect___eq__) := ⟨rfl, rfl, rfl, by decide +kernel, rfl, by decide +kernel, by decide +kernel⟩
theorem bd_Effect___eq__ : BindOk "__eq__" "Effect.__eq__" s_Effect___eq__ ["self", "other"] := fun _ _ _ _ _ _ us hl => match us, hl with | [_, _], _ => rfl
abbrev s_effect_parting : Stmt := top 19
theorem sc_effect_parting : FnScope ["a", "b", "state", "end"] ["a", "b"] (defScope s_effect_parting) := ⟨rfl, rfl, rfl, by decide +kernel, rfl, by decide +kernel, by decide +kernel⟩
theorem bd_effect_parting : BindOk "effect_parting" "effect_parting" s_effect_parting ["a", "b"] := fun _ _ _ _ _ _ us hl => match us, hl with | [_, _], _ => rfl
abbrev s_Kind___init__ : Stmt := inClass (top 24) 3
theorem sc_Kind___init__ : FnScope ["self", "reading", "writing", "device", "value", "words"] ["self", "reading", "writing", "device"] (defScope s_Kind___init__) := ⟨rfl, rfl, rfl, by decide +kernel, rfl, by decide +kernel, by decide +kernel⟩
theorem bd_Kind___init__ : BindOk "__init__" "Kind.__init__" s_Kind___init__ ["self", "reading", "writing", "device"] := fun _ _ _ _ _ _ us hl => match us, hl with | [_, _, _, _], _ => rfl
abbrev s_Kind_after_read : Stmt := inClass (top 24) 4
theorem sc_Kind_after_read : FnScope ["self", "state"] ["self", "state"] (defScope s_Kind_after_read) := ⟨rfl, rfl, rfl, by decide +kernel, rfl, by decide +kernel, by decide +kernel⟩
theorem bd_Kind_after_read : BindOk "after_read" "Kind.after_read" s_Kind_after_read ["self", "state"] := fun _ _ _ _ _ _ us hl => match us, hl with | [_, _], _ => rfl
abbrev s_Kind_after_write : Stmt := inClass (top 24) 5
theorem sc_Kind_after_write : FnScope ["self", "state", "bit"] ["self", "state", "bit"] (defScope s_Kind_after_write) := ⟨rfl, rfl, rfl, by decide +kernel, rfl, by decide +kernel, by decide +kernel⟩
theorem bd_Kind_after_write : BindOk "after_write" "Kind.after_write" s_Kind_after_write ["self", "state", "bit"] := fun _ _ _ _ _ _ us hl => match us, hl with | [_, _, _], _ => rfl
abbrev s_Kind_unguarded : Stmt := inClass (top 24) 6
theorem sc_Kind_unguarded : FnScope ["self", "state", "bit", "ends"] ["self", "state", "bit"] (defScope s_Kind_unguarded) := ⟨rfl, rfl, rfl, by decide +kernel, rfl, by decide +kernel, by decide +kernel⟩
theorem bd_Kind_unguarded : BindOk "unguarded" "Kind.unguarded" s_Kind_unguarded ["self", "state", "bit"] := fun _ _ _ _ _ _ us hl => match us, hl with | [_, _, _], _ => rfl
abbrev s_Kind_deeds : Stmt := inClass (top 24) 7
theorem sc_Kind_deeds : FnScope ["self", "state"] ["self", "state"] (defScope s_Kind_deeds) := ⟨rfl, rfl, rfl, by decide +kernel, rfl, by decide +kernel, by decide +kernel⟩
theorem bd_Kind_deeds : BindOk "deeds" "Kind.deeds" s_Kind_deeds ["self", "state"] := fun _ _ _ _ _ _ us hl => match us, hl with | [_, _], _ => rfl
abbrev s_Kind___eq__ : Stmt := inClass (top 24) 8
theorem sc_Kind___eq__ : FnScope ["self", "other"] ["self", "other"] (defScope s_Kind___eq__) := ⟨rfl, rfl, rfl, by decide +kernel, rfl, by decide +kernel, by decide +kernel⟩
theorem bd_Kind___eq__ : BindOk "__eq__" "Kind.__eq__" s_Kind___eq__ ["self", "other"] := fun _ _ _ _ _ _ us hl => match us, hl with | [_, _], _ => rfl
abbrev s_Kind___str__ : Stmt := inClass (top 24) 9
theorem sc_Kind___str__ : FnScope ["self"] ["self"] (defScope s_Kind___str__) := ⟨rfl, rfl, rfl, by decide +kernel, rfl, by decide +kernel, by decide +kernel⟩
theorem bd_Kind___str__ : BindOk "__str__" "Kind.__str__" s_Kind___str__ ["self"] := fun _ _ _ _ _ _ us hl => match us, hl with | [_], _ => rfl
abbrev s__law_pen : Stmt := top 26
theorem sc__law_pen : FnScope ["_law_script"] ["_law_script"] (defScope s__law_pen) := ⟨rfl, rfl, rfl, by decide +kernel, rfl, by decide +kernel, by decide +kernel⟩
theorem bd__law_pen : BindOk "_law_pen" "_law_pen" s__law_pen ["_law_script"] := fun _ _ _ _ _ _ us hl => match us, hl with | [_], _ => rfl
abbrev s__law_draw : Stmt := top 27
theorem sc__law_draw : FnScope ["_law_pen_here", "_law_many", "_law_digit", "_law_at", "_law_cell", "_law_great", "_law_mixed"] ["_law_pen_here", "_law_many"] (defScope s__law_draw) := ⟨rfl, rfl, rfl, by decide +kernel, rfl, by decide +kernel, by decide +kernel⟩
theorem bd__law_draw : BindOk "_law_draw" "_law_draw" s__law_draw ["_law_pen_here", "_law_many"] := fun _ _ _ _ _ _ us hl => match us, hl with | [_, _], _ => rfl
abbrev s__law_heard : Stmt := top 28
theorem sc__law_heard : FnScope ["_law_ask", "_law_caught", "error", "_law_marks"] ["_law_ask"] (defScope s__law_heard) := ⟨rfl, rfl, rfl, by decide +kernel, rfl, by decide +kernel, by decide +kernel⟩
theorem bd__law_heard : BindOk "_law_heard" "_law_heard" s__law_heard ["_law_ask"] := fun _ _ _ _ _ _ us hl => match us, hl with | [_], _ => rfl
abbrev s__law_write : Stmt := top 29
theorem sc__law_write : FnScope ["_law_writing", "_law_state", "_law_bit", "_law_value", "_law_second", "_law_ends_here"] ["_law_writing", "_law_state", "_law_bit"] (defScope s__law_write) := ⟨rfl, rfl, rfl, by decide +kernel, rfl, by decide +kernel, by decide +kernel⟩
theorem bd__law_write : BindOk "_law_write" "_law_write" s__law_write ["_law_writing", "_law_state", "_law_bit"] := fun _ _ _ _ _ _ us hl => match us, hl with | [_, _, _], _ => rfl
abbrev s__law_read : Stmt := top 30
theorem sc__law_read : FnScope ["_law_reading", "_law_state"] ["_law_reading", "_law_state"] (defScope s__law_read) := ⟨rfl, rfl, rfl, by decide +kernel, rfl, by decide +kernel, by decide +kernel⟩
theorem bd__law_read : BindOk "_law_read" "_law_read" s__law_read ["_law_reading", "_law_state"] := fun _ _ _ _ _ _ us hl => match us, hl with | [_, _], _ => rfl
abbrev s__law_deeds : Stmt := top 31
theorem sc__law_deeds : FnScope ["_law_device", "_law_state"] ["_law_device", "_law_state"] (defScope s__law_deeds) := ⟨rfl, rfl, rfl, by decide +kernel, rfl, by decide +kernel, by decide +kernel⟩
theorem bd__law_deeds : BindOk "_law_deeds" "_law_deeds" s__law_deeds ["_law_device", "_law_state"] := fun _ _ _ _ _ _ us hl => match us, hl with | [_, _], _ => rfl
abbrev s__law_words : Stmt := top 32
theorem sc__law_words : FnScope ["_law_pen_here", "_law_writings", "_law_reading"] ["_law_pen_here"] (defScope s__law_words) := ⟨rfl, rfl, rfl, by decide +kernel, rfl, by decide +kernel, by decide +kernel⟩
theorem bd__law_words : BindOk "_law_words" "_law_words" s__law_words ["_law_pen_here"] := fun _ _ _ _ _ _ us hl => match us, hl with | [_], _ => rfl
abbrev s__law_closed : Stmt := top 33
theorem sc__law_closed : FnScope ["_law_device", "_law_states_here", "_law_found", "_law_at", "_law_end"] ["_law_device", "_law_states_here"] (defScope s__law_closed) := ⟨rfl, rfl, rfl, by decide +kernel, rfl, by decide +kernel, by decide +kernel⟩
theorem bd__law_closed : BindOk "_law_closed" "_law_closed" s__law_closed ["_law_device", "_law_states_here"] := fun _ _ _ _ _ _ us hl => match us, hl with | [_, _], _ => rfl
abbrev s__law_ends : Stmt := top 34
theorem sc__law_ends : FnScope ["_law_words_here", "_law_state", "_law_letters_here", "_law_is_quiet", "_law_reading", "_law_writing", "_law_device", "_law_found", "_law_letter", "_law_one"] ["_law_words_here", "_law_state", "_law_letters_here", "_law_is_quiet"] (defScope s__law_ends) := ⟨rfl, rfl, rfl, by decide +kernel, rfl, by decide +kernel, by decide +kernel⟩
theorem bd__law_ends : BindOk "_law_ends" "_law_ends" s__law_ends ["_law_words_here", "_law_state", "_law_letters_here", "_law_is_quiet"] := fun _ _ _ _ _ _ us hl => match us, hl with | [_, _, _, _], _ => rfl
abbrev s__law_states : Stmt := top 35
theorem sc__law_states : FnScope ["_law_words_here"] ["_law_words_here"] (defScope s__law_states) := ⟨rfl, rfl, rfl, by decide +kernel, rfl, by decide +kernel, by decide +kernel⟩
theorem bd__law_states : BindOk "_law_states" "_law_states" s__law_states ["_law_words_here"] := fun _ _ _ _ _ _ us hl => match us, hl with | [_], _ => rfl
abbrev s__law_letters : Stmt := top 36
theorem sc__law_letters : FnScope ["_law_pen_here", "_law_most", "_law_size", "_law_signs", "_law_turn"] ["_law_pen_here", "_law_most"] (defScope s__law_letters) := ⟨rfl, rfl, rfl, by decide +kernel, rfl, by decide +kernel, by decide +kernel⟩
theorem bd__law_letters : BindOk "_law_letters" "_law_letters" s__law_letters ["_law_pen_here", "_law_most"] := fun _ _ _ _ _ _ us hl => match us, hl with | [_, _], _ => rfl
abbrev s__law_rows : Stmt := top 37
theorem sc__law_rows : FnScope ["_law_words_here", "_law_letters_here", "_law_is_quiet", "_law_state"] ["_law_words_here", "_law_letters_here", "_law_is_quiet"] (defScope s__law_rows) := ⟨rfl, rfl, rfl, by decide +kernel, rfl, by decide +kernel, by decide +kernel⟩
theorem bd__law_rows : BindOk "_law_rows" "_law_rows" s__law_rows ["_law_words_here", "_law_letters_here", "_law_is_quiet"] := fun _ _ _ _ _ _ us hl => match us, hl with | [_, _, _], _ => rfl
abbrev s__law_told : Stmt := top 38
theorem sc__law_told : FnScope ["_law_effect", "_law_words_here", "_law_state"] ["_law_effect", "_law_words_here"] (defScope s__law_told) := ⟨rfl, rfl, rfl, by decide +kernel, rfl, by decide +kernel, by decide +kernel⟩
theorem bd__law_told : BindOk "_law_told" "_law_told" s__law_told ["_law_effect", "_law_words_here"] := fun _ _ _ _ _ _ us hl => match us, hl with | [_, _], _ => rfl
abbrev s__law_compared : Stmt := top 39
theorem sc__law_compared : FnScope ["_law_one", "_law_other", "_law_words_here", "_law_first", "_law_second", "_law_least", "_law_is_within", "_law_state", "_law_end", "_law_both", "_law_due", "_law_row", "_law_more"] ["_law_one", "_law_other", "_law_words_here"] (defScope s__law_compared) := ⟨rfl, rfl, rfl, by decide +kernel, rfl, by decide +kernel, by decide +kernel⟩
theorem bd__law_compared : BindOk "_law_compared" "_law_compared" s__law_compared ["_law_one", "_law_other", "_law_words_here"] := fun _ _ _ _ _ _ us hl => match us, hl with | [_, _, _], _ => rfl
abbrev s__law_put : Stmt := top 40
theorem sc__law_put : FnScope ["_law_first", "_law_second", "_law_found", "_law_row", "_law_ends_here", "_law_state"] ["_law_first", "_law_second"] (defScope s__law_put) := ⟨rfl, rfl, rfl, by decide +kernel, rfl, by decide +kernel, by decide +kernel⟩
theorem bd__law_put : BindOk "_law_put" "_law_put" s__law_put ["_law_first", "_law_second"] := fun _ _ _ _ _ _ us hl => match us, hl with | [_, _], _ => rfl
abbrev s__law_mixed_right : Stmt := top 41
theorem sc__law_mixed_right : FnScope ["_law_one", "_law_mixed", "_law_words_here", "_law_first", "_law_second", "_law_here", "_law_there"] ["_law_one", "_law_mixed", "_law_words_here"] (defScope s__law_mixed_right) := ⟨rfl, rfl, rfl, by decide +kernel, rfl, by decide +kernel, by decide +kernel⟩
theorem bd__law_mixed_right : BindOk "_law_mixed_right" "_law_mixed_right" s__law_mixed_right ["_law_one", "_law_mixed", "_law_words_here"] := fun _ _ _ _ _ _ us hl => match us, hl with | [_, _, _], _ => rfl
abbrev s__law_unlike_right : Stmt := top 42
theorem sc__law_unlike_right : FnScope ["_law_one", "_law_other", "_law_heard_here", "_law_marks"] ["_law_one", "_law_other"] (defScope s__law_unlike_right) := ⟨rfl, rfl, rfl, by decide +kernel, rfl, by decide +kernel, by decide +kernel⟩
theorem bd__law_unlike_right : BindOk "_law_unlike_right" "_law_unlike_right" s__law_unlike_right ["_law_one", "_law_other"] := fun _ _ _ _ _ _ us hl => match us, hl with | [_, _], _ => rfl
abbrev s_law : Stmt := top 43
theorem sc_law : FnScope ["_law_script", "_law_pen_here", "_law_words_here", "_law_kind", "_law_texts", "_law_turn", "_law_is_quiet", "_law_some", "_law_letters_here", "_law_kept", "_law_one", "_law_two", "_law_three", "_law_none", "_law_mixed", "_law_pairs", "_law_first", "_law_second", "_law_others", "_law_other", "_law_effect"] ["_law_script"] (defScope s_law) := ⟨rfl, rfl, rfl, by decide +kernel, rfl, by decide +kernel, by decide +kernel⟩
theorem bd_law : BindOk "law" "law" s_law ["_law_script"] := fun _ _ _ _ _ _ us hl => match us, hl with | [_], _ => rfl
/-! ### kinds -/
def RD : List Str := ["keep", "take"]
def WR : List Str := ["store", "clear1", "clear0", "set1", "flip1", "once", "none"]
def DV : List Str := ["still", "raise", "end", "drift"]
def kf (r w d : Str) (st : Addr) : List (Str × V) := [("reading", .str r), ("writing", .str w), ("device", .str d), ("states", .ref st)]
def stL (w : Str) : List V := if w = "once" then [.int 0, .int 1, .int 2, .int 3] else [.int 0, .int 1]
def KindAt (C : Addr) (H : Hp) (k : Addr) (r w d : Str) : Prop := ∃ dx st, H k = some (.ins C dx (kf r w d st)) ∧ H st = some (.tup (stL w))
/-- the table of writings: for the value v and the bit b -/
def tabV (w : Str) (v b : Int) : Int :=
  if w = "store" then b else if w = "clear1" then (if b = 1 then 0 else v) else if w = "clear0" then (if b = 1 then v else 0) else if w = "set1" then (if b = 1 then 1 else v)
  else if w = "flip1" then (if b = 1 then 1 - v else v) else if w = "once" then 2 + b else v
def invL (d : Str) : List V := if d = "raise" then [.int 0] else if d = "end" then [.int 1] else if d = "drift" then [.int 0, .int 1] else []
def rdF (r : Str) (s : Int) : Int := if r = "take" then Builtin.bitAnd s 2 else s
def awF (w : Str) (s b : Int) : Int := if Builtin.bitAnd s 2 = 0 then tabV w (Builtin.bitAnd s 1) b else s
def dvF (d : Str) (s : Int) : List V := if inV (.int (Builtin.bitAnd s 1)) (invL d) = true then [.int (Builtin.bitXor s 1)] else []
def St4 (s : Int) : Prop := s = 0 ∨ s = 1 ∨ s = 2 ∨ s = 3
structure KT (K : PySem.W.Frag) (w : World) (mg : Str → Option Value) (C aW aI : Addr) (mc : Value) : Prop where
  g_Kind : mg "Kind" = some (.ref C)
  g_SPENT : ∃ t, mg "SPENT" = some (.int 2 t)
  g_WRITES : mg "WRITES" = some (.ref aW)
  g_INVERTED : mg "INVERTED" = some (.ref aI)
  g_isinstance : mg "isinstance" = none
  cl : Cls K C
  nR : NoAttr K C "reading"
  nW : NoAttr K C "writing"
  nD : NoAttr K C "device"
  nS : NoAttr K C "states"
  rd : ClX.CRead K C mc
  cR : ∃ a, ClX.CVal K C mc "READINGS" (.ref a) (.ref a) ∧ KTup K a (RD.map V.str)
  cW : ∃ a, ClX.CVal K C mc "WRITINGS" (.ref a) (.ref a) ∧ KTup K a (WR.map V.str)
  cD : ∃ a, ClX.CVal K C mc "DEVICES" (.ref a) (.ref a) ∧ KTup K a (DV.map V.str)
  tW : ∀ x ∈ WR, ∃ t t0 t1, KDct K w aW x (.ref t) ∧ KTup K t [.ref t0, .ref t1] ∧ KTup K t0 [.int (tabV x 0 0), .int (tabV x 0 1)] ∧ KTup K t1 [.int (tabV x 1 0), .int (tabV x 1 1)]
  tI : ∀ x ∈ DV, ∃ t, KDct K w aI x (.ref t) ∧ KTup K t (invL x)
  isC : PySem.W.findIn K (.ref C) "__class__" = some (some (.builtin "object.__class__"))
  isG : PySem.W.specialIn K (.builtin "object.__class__") "__get__" = some (some (.builtin "getset_descriptor.__get__"))
  isT : PySem.W.takesIn K (.builtin "object.__class__") = some true
  isM : PySem.W.mroIn K C (.type "object") = some true
/-! ### promises -/
def spInit (C : Addr) : Sp := fun vs H Q _ => ∃ (x dx : Addr) (r w d : Str), vs = [.ref x, .str r, .str w, .str d] ∧ H x = some (.ins C dx []) ∧ r ∈ RD ∧ w ∈ WR ∧ d ∈ DV ∧
  ∀ H', KindAt C H' x r w d → (∀ b o, H b = some o → b ≠ x → H' b = some o) → Q .non H'
def spAR (C : Addr) : Sp := fun vs H Q _ => ∃ (k : Addr) (r w d : Str) (s : Int), vs = [.ref k, .int s] ∧ KindAt C H k r w d ∧ Q (.int (rdF r s)) H
def spUN (C : Addr) : Sp := fun vs H Q _ => ∃ (k : Addr) (r w d : Str) (s b : Int), vs = [.ref k, .int s, .int b] ∧ KindAt C H k r w d ∧ w ∈ WR ∧ St4 s ∧ (b = 0 ∨ b = 1) ∧ Q (.int (tabV w (Builtin.bitAnd s 1) b)) H
def spAW (C : Addr) : Sp := fun vs H Q _ => ∃ (k : Addr) (r w d : Str) (s b : Int), vs = [.ref k, .int s, .int b] ∧ KindAt C H k r w d ∧ w ∈ WR ∧ St4 s ∧ (b = 0 ∨ b = 1) ∧ Q (.int (awF w s b)) H
def spDE (C : Addr) : Sp := fun vs H Q _ => ∃ (k : Addr) (r w d : Str) (s : Int), vs = [.ref k, .int s] ∧ KindAt C H k r w d ∧ d ∈ DV ∧ St4 s ∧ ∀ t H', H t = none → H' t = some (.tup (dvF d s)) → Same H H' → Q (.ref t) H'
def spEQ (C : Addr) : Sp := fun vs H Q _ => ∃ (k j : Addr) (r w d r' w' d' : Str), vs = [.ref k, .ref j] ∧ KindAt C H k r w d ∧ KindAt C H j r' w' d' ∧ Q (.bl (decide (r = r') && decide (w = w') && decide (d = d'))) H
def spST (C : Addr) : Sp := fun vs H Q _ => ∃ (k : Addr) (r w d : Str), vs = [.ref k] ∧ KindAt C H k r w d ∧ r ∈ RD ∧ w ∈ WR ∧ d ∈ DV ∧ Q (.str (Str.empty ++ r ++ " " ++ w ++ " " ++ d)) H
section
variable {P : Program} {w : World} {K : PySem.W.Frag} {mg : Str → Option Value} {base : Heap} {C aW aI : Addr} {mc : Value}
theorem ok_AR {f : Addr} (D : MetAt K C "after_read" "Kind.after_read" s_Kind_after_read ["self", "state"] f) (T : KT K w mg C aW aI mc) : ∃ fd, Meth K C "after_read" f ∧ Fun K "after_read" "Kind.after_read" s_Kind_after_read f fd ∧ Binds K fd ["self", "state"] [] ∧ Gd P w K mg base CX0 1 f fd ["self", "state"] (spAR C) := by
  refine D.gd sc_Kind_after_read (fun vs H Q E h => ?_) (fun cdv A outer s H vs Q E rm gd h => ?_)
  · obtain ⟨k, r, w, d, s, rfl, _⟩ := h
    rfl
  · obtain ⟨k, r, w, d, s, rfl, ⟨dx, st, hk, hs⟩, q⟩ := h
    obtain ⟨tS, gS⟩ := T.g_SPENT
    have cl := T.cl
    have nR := T.nR
    refine ⟨_, (pss_cons (ps_if (pt_cmpR op_eq (pe_fld (pv 0) rfl) pe_str (nomark _))
      (pss_one (ps_ret (pe_op op_and (pv 1) (pe_glob (v := .int 2) rfl gS ⟨_, rfl⟩))))
      pss_nil)
    (pss_one (ps_ret (pv 1)))), ?_⟩
    walk_at "go"
    refine ite2 (fun h => ?_) (fun h => ?_)
    · have e : r = "take" := V.str.inj (of_decide_eq_true h)
      walk_at "go"
      unfold rdF at q
      rw [if_pos e] at q
      exact q
    · have e : ¬ r = "take" := fun z => h (decide_eq_true (congrArg V.str z))
      walk_at "go"
      unfold rdF at q
      rw [if_neg e] at q
      exact q
theorem ok_UN {f : Addr} (D : MetAt K C "unguarded" "Kind.unguarded" s_Kind_unguarded ["self", "state", "bit"] f) (T : KT K w mg C aW aI mc) : ∃ fd, Meth K C "unguarded" f ∧ Fun K "unguarded" "Kind.unguarded" s_Kind_unguarded f fd ∧ Binds K fd ["self", "state", "bit"] [] ∧ Gd P w K mg base CX0 1 f fd ["self", "state", "bit"] (spUN C) := by
  refine D.gd sc_Kind_unguarded (fun vs H Q E h => ?_) (fun cdv A outer s H vs Q E rm gd h => ?_)
  · obtain ⟨k, r, w, d, s, b, rfl, _⟩ := h
    rfl
  · obtain ⟨k, r, wr, d, s, b, rfl, ⟨dx, st, hk, hs⟩, hw, h4, hb, q⟩ := h
    obtain ⟨t, t0, t1, kd, kt, k0, k1⟩ := T.tW wr hw
    have cl := T.cl
    have nW := T.nW
    refine ⟨_, (pss_cons (ps_set (i := 3) sc_Kind_unguarded.nd rfl (Or.inl rfl) (pe_ix ix_kdict (pe_glob (v := .ref aW) rfl T.g_WRITES rfl) (pe_fld (pv 0) rfl) (fun _ _ => rfl)))
    (pss_one (ps_ret (pe_ix ix_tup (pe_ix ix_tup (pv 3) (pe_op op_and (pv 1) pe_int) (fun _ _ => rfl)) (pv 2) (fun _ _ => rfl))))), ?_⟩
    walk_at "go"
    refine w_kd kd ?_
    walk_at "go"
    have h2 : Builtin.bitAnd s 1 = 0 ∨ Builtin.bitAnd s 1 = 1 := by
      rcases h4 with rfl | rfl | rfl | rfl <;> decide
    rcases h2 with e | e <;> rw [e] at q ⊢
    · refine w_ixT (kt.t _) rfl ?_
      walk_at "go"
      rcases hb with rfl | rfl
      · exact w_ixT (k0.t _) rfl q
      · exact w_ixT (k0.t _) rfl q
    · refine w_ixT (kt.t _) rfl ?_
      walk_at "go"
      rcases hb with rfl | rfl
      · exact w_ixT (k1.t _) rfl q
      · exact w_ixT (k1.t _) rfl q
theorem ok_AW {f u : Addr} (D : MetAt K C "after_write" "Kind.after_write" s_Kind_after_write ["self", "state", "bit"] f) (T : KT K w mg C aW aI mc) (mU : Met P w K mg base 1 C "unguarded" u (spUN C)) :
    ∃ fd, Meth K C "after_write" f ∧ Fun K "after_write" "Kind.after_write" s_Kind_after_write f fd ∧ Binds K fd ["self", "state", "bit"] [] ∧ Gd P w K mg base CX0 2 f fd ["self", "state", "bit"] (spAW C) := by
  refine D.gd sc_Kind_after_write (fun vs H Q E h => ?_) (fun cdv A outer s H vs Q E rm gd h => ?_)
  · obtain ⟨k, r, w, d, s, b, rfl, _⟩ := h
    rfl
  · obtain ⟨k, r, wr, d, s, b, rfl, ⟨dx, st, hk, hs⟩, hw, h4, hb, q⟩ := h
    obtain ⟨tS, gS⟩ := T.g_SPENT
    refine ⟨_, (pss_cons (ps_if (pt_cmpR op_ne (pe_op op_and (pv 1) (pe_glob (v := .int 2) rfl gS ⟨_, rfl⟩)) pe_int (nomark _))
      (pss_one (ps_ret (pv 1)))
      pss_nil)
    (pss_one (ps_ret (pm mU T.cl rm (by decide) gd (pv 0) (pa_cons (pv 1) (pa_cons (pv 2) pa_nil)))))), ?_⟩
    walk_at "go"
    refine ite2 (fun h => ?_) (fun h => ?_)
    · have e : ¬ Builtin.bitAnd s 2 = 0 := fun z => by
        rw [z] at h
        exact absurd h (by decide)
      walk_at "go"
      unfold awF at q
      rw [if_neg e] at q
      exact q
    · have e : Builtin.bitAnd s 2 = 0 := by
        by_cases z : Builtin.bitAnd s 2 = 0
        · exact z
        · refine absurd ?_ h
          rw [decide_eq_false (fun y => z (V.int.inj y))]
          rfl
      walk_at "go"
      unfold awF at q
      rw [if_pos e] at q
      exact ⟨k, r, wr, d, s, b, rfl, ⟨dx, st, hk, hs⟩, hw, h4, hb, q⟩
theorem ok_DE {f : Addr} (D : MetAt K C "deeds" "Kind.deeds" s_Kind_deeds ["self", "state"] f) (T : KT K w mg C aW aI mc) : ∃ fd, Meth K C "deeds" f ∧ Fun K "deeds" "Kind.deeds" s_Kind_deeds f fd ∧ Binds K fd ["self", "state"] [] ∧ Gd P w K mg base CX0 1 f fd ["self", "state"] (spDE C) := by
  refine D.gd sc_Kind_deeds (fun vs H Q E h => ?_) (fun cdv A outer s H vs Q E rm gd h => ?_)
  · obtain ⟨k, r, w, d, s, rfl, _⟩ := h
    rfl
  · obtain ⟨k, r, wr, d, s, rfl, ⟨dx, st, hk, hs⟩, hd, h4, q⟩ := h
    obtain ⟨t, kd, kt⟩ := T.tI d hd
    have cl := T.cl
    have nD := T.nD
    refine ⟨_, (pss_cons (ps_if (pt_cmpR op_in_seq (pe_op op_and (pv 1) pe_int) (pe_ix ix_kdict (pe_glob (v := .ref aI) rfl T.g_INVERTED rfl) (pe_fld (pv 0) rfl) (fun _ _ => rfl)) rfl)
      (pss_one (ps_ret (pe_tup (pa_cons (pe_op op_xor (pv 1) pe_int) pa_nil))))
      pss_nil)
    (pss_one (ps_ret (pe_tup pa_nil)))), ?_⟩
    walk_at "go"
    refine w_kd kd ?_
    refine w_in (.inr (kt.t _)) rfl ?_ ?_
    · unfold invL
      repeat' split
      all_goals rfl
    walk_at "go"
    refine ite2 (fun h => ?_) (fun h => ?_)
    · have e : inV (.int (Builtin.bitAnd s 1)) (invL d) = true := h
      walk_at "go"
      refine new (by show 1 ≤ sizeLine; decide) fun t H' nt ht s1 => ?_
      unfold dvF at q
      rw [if_pos e] at q
      exact q t H' nt ht s1
    · have e : ¬ inV (.int (Builtin.bitAnd s 1)) (invL d) = true := h
      walk_at "go"
      refine new (by show 0 ≤ sizeLine; decide) fun t H' nt ht s1 => ?_
      unfold dvF at q
      rw [if_neg e] at q
      exact q t H' nt ht s1
theorem ty_kind (T : KT K w mg C aW aI mc) {H : Hp} {k : Addr} {r wr d : Str} (h : KindAt C H k r wr d) : TyX K H (.ref k) (.ref C) := by
  obtain ⟨dx, st, hk, _⟩ := h
  exact .base (.ins hk T.cl T.isC T.isG T.isT T.isM)
theorem ok_EQ {f : Addr} (D : MetAt K C "__eq__" "Kind.__eq__" s_Kind___eq__ ["self", "other"] f) (T : KT K w mg C aW aI mc) : ∃ fd, Meth K C "__eq__" f ∧ Fun K "__eq__" "Kind.__eq__" s_Kind___eq__ f fd ∧ Binds K fd ["self", "other"] [] ∧ Gd P w K mg base CX0 1 f fd ["self", "other"] (spEQ C) := by
  refine D.gd sc_Kind___eq__ (fun vs H Q E h => ?_) (fun cdv A outer s H vs Q E rm gd h => ?_)
  · obtain ⟨k, j, r, w, d, r', w', d', rfl, _⟩ := h
    rfl
  · obtain ⟨k, j, r, wr, d, r', w', d', rfl, Hk, Hj, q⟩ := h
    obtain ⟨dx, st, hk, hs⟩ := id Hk
    obtain ⟨dy, su, hj, hu⟩ := id Hj
    have B := T
    have cl := T.cl
    have nR := T.nR
    have nW := T.nW
    have nD := T.nD
    refine ⟨_, (pss_one (ps_ret (pe_and (pe_callB call_isi (by rfl) B.g_isinstance (by decide +kernel) (pa_cons (pv 1) (pa_cons (pe_glob (v := .ref C) rfl T.g_Kind rfl) pa_nil))) (pe_and (pe_cmpR op_eq (pe_fld (pv 0) rfl) (pe_fld (pv 1) rfl) (nomark _)) (pe_and (pe_cmpR op_eq (pe_fld (pv 0) rfl) (pe_fld (pv 1) rfl) (nomark _)) (pe_one (pe_cmpR op_eq (pe_fld (pv 0) rfl) (pe_fld (pv 1) rfl) (nomark _)))))))), ?_⟩
    walk_at "go"
    refine ⟨.ref j, .ref C, .ref C, .ref C, true, rfl, .own C, ty_kind T Hj, if_pos (beq_self_eq_true _), true, rfl, ?_⟩
    refine iteT ?_
    walk_at "go"
    have dS : ∀ a b : Str, decide (V.str a = V.str b) = decide (a = b) := fun a b => by
      by_cases h : a = b
      · subst h
        rw [decide_eq_true rfl, decide_eq_true rfl]
      · rw [decide_eq_false h, decide_eq_false fun z => h (V.str.inj z)]
    rw [dS]
    by_cases h1 : r = r'
    · rw [decide_eq_true h1] at q ⊢
      refine iteT ?_
      walk_at "go"
      rw [dS]
      by_cases h2 : wr = w'
      · rw [decide_eq_true h2] at q ⊢
        refine iteT ?_
        walk_at "go"
        rw [dS]
        exact q
      · rw [decide_eq_false h2] at q ⊢
        exact iteF q
    · rw [decide_eq_false h1] at q ⊢
      exact iteF q
theorem in_mem {x : Str} : ∀ {l : List Str}, x ∈ l → inV (.str x) (l.map V.str) = true
  | [], h => absurd h List.not_mem_nil
  | y :: l, h => by
    show (eqV (.str y) (.str x) || (l.map V.str).any fun z => eqV z (.str x)) = true
    rcases List.mem_cons.mp h with e | e
    · subst e
      rw [show eqV (V.str x) (V.str x) = true from beq_self_eq_true x, Bool.true_or]
    · have := in_mem e
      unfold inV at this
      rw [this, Bool.or_true]
theorem flat_strs : ∀ l : List Str, (l.map V.str).all flatV = true
  | [] => rfl
  | _ :: l => by
    rw [List.map_cons, List.all_cons, flat_strs l]
    rfl
theorem sh_rd : ∀ x ∈ RD, x.length ≤ 10 := by decide +kernel
theorem sh_wr : ∀ x ∈ WR, x.length ≤ 10 := by decide +kernel
theorem sh_dv : ∀ x ∈ DV, x.length ≤ 10 := by decide +kernel
theorem ln {a b : Str} {n m k : Nat} (h1 : a.length ≤ n) (h2 : b.length ≤ m) (h : n + m ≤ k) : (a ++ b).length ≤ k := by
  rw [strLen_append]
  omega
theorem ok_ST {f : Addr} (D : MetAt K C "__str__" "Kind.__str__" s_Kind___str__ ["self"] f) (T : KT K w mg C aW aI mc) : ∃ fd, Meth K C "__str__" f ∧ Fun K "__str__" "Kind.__str__" s_Kind___str__ f fd ∧ Binds K fd ["self"] [] ∧ Gd P w K mg base CX0 1 f fd ["self"] (spST C) := by
  refine D.gd sc_Kind___str__ (fun vs H Q E h => ?_) (fun cdv A outer s H vs Q E rm gd h => ?_)
  · obtain ⟨k, r, w, d, rfl, _⟩ := h
    rfl
  · obtain ⟨k, r, wr, d, rfl, ⟨dx, st, hk, hs⟩, hr, hw, hd, q⟩ := h
    have cl := T.cl
    have nR := T.nR
    have nW := T.nW
    have nD := T.nD
    have l1 := sh_rd r hr
    have l2 := sh_wr wr hw
    have l3 := sh_dv d hd
    have big : ∀ {n : Nat}, n ≤ 100 → n ≤ sizeLine := fun h => Nat.le_trans h (by decide)
    have e0 : (Str.empty ++ r).length ≤ 10 := ln (n := 0) (m := 10) (Nat.le_refl _) l1 (by decide)
    have e1 : (Str.empty ++ r ++ (" " : Str)).length ≤ 11 := ln e0 (m := 1) (by decide) (by decide)
    have e2 : (Str.empty ++ r ++ (" " : Str) ++ wr).length ≤ 21 := ln e1 l2 (by decide)
    have e3 : (Str.empty ++ r ++ (" " : Str) ++ wr ++ (" " : Str)).length ≤ 22 := ln e2 (m := 1) (by decide) (by decide)
    have e4 : (Str.empty ++ r ++ (" " : Str) ++ wr ++ (" " : Str) ++ d).length ≤ 32 := ln e3 l3 (by decide)
    refine ⟨_, (pss_one (ps_ret (pe_joined (.cons (pe_fmt (pe_fld (pv 0) rfl)) (.cons pe_str (.cons (pe_fmt (pe_fld (pv 0) rfl)) (.cons pe_str (.cons (pe_fmt (pe_fld (pv 0) rfl)) .nil)))))))), ?_⟩
    refine ⟨_, rfl, k, C, dx, _, _, rfl, hk, cl, nR, rfl, .inl ⟨r, rfl, big (by omega), r, rfl, big (by omega), " ", rfl, big (by omega), ?_⟩⟩
    refine ⟨_, rfl, k, C, dx, _, _, rfl, hk, cl, nW, rfl, .inl ⟨wr, rfl, big (by omega), wr, rfl, big (by omega), " ", rfl, big (by omega), ?_⟩⟩
    exact ⟨_, rfl, k, C, dx, _, _, rfl, hk, cl, nD, rfl, .inl ⟨d, rfl, big (by omega), d, rfl, big (by omega), q⟩⟩
theorem ok_IN {f : Addr} (D : MetAt K C "__init__" "Kind.__init__" s_Kind___init__ ["self", "reading", "writing", "device"] f) (T : KT K w mg C aW aI mc) :
    ∃ fd, Meth K C "__init__" f ∧ Fun K "__init__" "Kind.__init__" s_Kind___init__ f fd ∧ Binds K fd ["self", "reading", "writing", "device"] [] ∧ Gd P w K mg base CX0 1 f fd ["self", "reading", "writing", "device"] (spInit C) := by
  refine D.gd sc_Kind___init__ (fun vs H Q E h => ?_) (fun cdv A outer s H vs Q E rm gd h => ?_)
  · obtain ⟨x, dx, r, w, d, rfl, _⟩ := h
    rfl
  · obtain ⟨x, dx, r, wr, d, rfl, hx, hr, hw, hd, q⟩ := h
    obtain ⟨aR, cR, kR⟩ := T.cR
    obtain ⟨bW, cW, kW⟩ := T.cW
    obtain ⟨aD, cD, kD⟩ := T.cD
    have cl := T.cl
    have nR := T.nR
    have nW := T.nW
    have nD := T.nD
    have nS := T.nS
    refine ⟨_, (pss_cons (ps_for PassesOwn.never rfl (pi_tup (pe_tup (pa_cons (pe_tup (pa_cons (pv 1) (pa_cons (ClX.pe_cval (pe_glob (v := .ref C) rfl T.g_Kind rfl)) pa_nil))) (pa_cons (pe_tup (pa_cons (pv 2) (pa_cons (ClX.pe_cval (pe_glob (v := .ref C) rfl T.g_Kind rfl)) pa_nil))) (pa_cons (pe_tup (pa_cons (pv 3) (pa_cons (ClX.pe_cval (pe_glob (v := .ref C) rfl T.g_Kind rfl)) pa_nil))) pa_nil))))) (pg_tup rfl (pgs_cons (pg_name (i := 4) sc_Kind___init__.nd rfl (Or.inl rfl)) (pgs_cons (pg_name (i := 5) sc_Kind___init__.nd rfl (Or.inl rfl)) pgs_nil)))
      (pss_one (ps_if (pt_cmpR op_notIn_seq (pv 4) (pv 5) rfl)
        (pss_one ps_never)
        pss_nil)))
    (pss_cons (ps_fld (pv 0) (pv 1) rfl)
    (pss_cons (ps_fld (pv 0) (pv 2) rfl)
    (pss_cons (ps_fld (pv 0) (pv 3) rfl)
    (pss_one (ps_fld (pv 0) (pe_ifExp (pt_cmpR op_eq (pv 2) pe_str (nomark _)) (pe_tup (pa_cons pe_int (pa_cons pe_int (pa_cons pe_int (pa_cons pe_int pa_nil))))) (pe_tup (pa_cons pe_int (pa_cons pe_int pa_nil)))) rfl)))))), ?_⟩
    walk_at "go"
    refine ⟨C, mc, .ref aR, .ref aR, rfl, T.rd, cR, ?_⟩
    walk_at "go"
    refine new (by show 2 ≤ sizeLine; decide) fun t1 H1 n1 h1 s1 => ?_
    walk_at "go"
    refine ⟨C, mc, .ref bW, .ref bW, rfl, T.rd, cW, ?_⟩
    walk_at "go"
    refine new (by show 2 ≤ sizeLine; decide) fun t2 H2 n2 h2 s2 => ?_
    walk_at "go"
    refine ⟨C, mc, .ref aD, .ref aD, rfl, T.rd, cD, ?_⟩
    walk_at "go"
    refine new (by show 2 ≤ sizeLine; decide) fun t3 H3 n3 h3 s3 => ?_
    walk_at "go"
    refine new (by show 3 ≤ sizeLine; decide) fun t4 H4 n4 h4 s4 => ?_
    have sA := s1.trans (s2.trans (s3.trans s4))
    refine over_t (SqT.of h4) (for_tup (xs := [.ref t1, .ref t2, .ref t3]) (fun i σ H' => ∃ v4 v5, σ = [some (.ref x), some (.str r), some (.str wr), some (.str d), v4, v5] ∧ Same H4 H') ⟨none, none, rfl, Same.refl _⟩ (fun i σ H' _ ⟨_, _, _, z⟩ => SqT.of (z _ _ h4)) ?_ ?_)
    · rintro i y σ H' hi ⟨v4, v5, rfl, z⟩
      have one : ∀ {t a : Addr} {val : Str} {l : List Str} (ht : H4 t = some (.tup [.str val, .ref a])) (ka : KTup K a (l.map V.str)) (hm : val ∈ l) (D : Ends),
          (D.nx = fun σ H' => ∃ v4 v5, σ = [some (.ref x), some (.str r), some (.str wr), some (.str d), v4, v5] ∧ Same H4 H') → True := fun _ _ _ _ _ => trivial
      match i, hi with
      | 0, hi =>
        cases hi
        refine ⟨t1, [.str r, .ref aR], rfl, SqT.of (z _ _ (s4 _ _ (s3 _ _ (s2 _ _ h1)))), rfl, _, _, rfl, _, _, rfl, rfl, ?_⟩
        walk_at "go"
        refine w_in (.inr (kR.t _)) rfl (flat_strs _) ?_
        walk_at "go"
        rw [in_mem hr]
        refine iteF ?_
        exact ⟨_, _, rfl, z⟩
      | 1, hi =>
        cases hi
        refine ⟨t2, [.str wr, .ref bW], rfl, SqT.of (z _ _ (s4 _ _ (s3 _ _ h2))), rfl, _, _, rfl, _, _, rfl, rfl, ?_⟩
        walk_at "go"
        refine w_in (.inr (kW.t _)) rfl (flat_strs _) ?_
        walk_at "go"
        rw [in_mem hw]
        refine iteF ?_
        exact ⟨_, _, rfl, z⟩
      | 2, hi =>
        cases hi
        refine ⟨t3, [.str d, .ref aD], rfl, SqT.of (z _ _ (s4 _ _ h3)), rfl, _, _, rfl, _, _, rfl, rfl, ?_⟩
        walk_at "go"
        refine w_in (.inr (kD.t _)) rfl (flat_strs _) ?_
        walk_at "go"
        rw [in_mem hd]
        refine iteF ?_
        exact ⟨_, _, rfl, z⟩
    · rintro σ H5 ⟨v4, v5, rfl, z⟩
      have s5 := sA.trans z
      have hx5 := s5 _ _ hx
      walk_at "go"
      refine sfld hx5 cl nR (by show 0 < 1000; decide) rfl fun H6 h6 e6 => ?_
      walk_at "go"
      refine sfld h6 cl nW (by show 1 < 1000; decide) rfl fun H7 h7 e7 => ?_
      walk_at "go"
      refine sfld h7 cl nD (by show 2 < 1000; decide) rfl fun H8 h8 e8 => ?_
      walk_at "go"
      have fin : ∀ (st : Addr) (H9 H10 : Hp), H9 st = some (.tup (stL wr)) → Same H8 H9 → H10 x = some (.ins C dx (kf r wr d st)) → (∀ b, b ≠ x → H10 b = H9 b) → Q .non H10 := fun st H9 H10 hst s9 hx10 e10 => by
        have nx : st ≠ x := ne_of hst (s9 _ _ h8) (by intro y; cases y)
        refine q H10 ⟨dx, st, hx10, (e10 st nx).trans hst⟩ fun b o e nb => ?_
        rw [e10 b nb]
        refine s9 _ _ ?_
        rw [e8 b nb, e7 b nb, e6 b nb]
        exact s5 _ _ e
      refine ite2 (fun h => ?_) (fun h => ?_)
      · have e : wr = "once" := V.str.inj (of_decide_eq_true h)
        walk_at "go"
        refine new (by show 4 ≤ sizeLine; decide) fun st H9 n9 h9 s9 => ?_
        walk_at "go"
        refine sfld (s9 _ _ h8) cl nS (by show 3 < 1000; decide) rfl fun H10 h10 e10 => ?_
        exact fin st H9 H10 (by rw [h9]; unfold stL; rw [if_pos e]) s9 h10 e10
      · have e : ¬ wr = "once" := fun z => h (decide_eq_true (congrArg V.str z))
        walk_at "go"
        refine new (by show 2 ≤ sizeLine; decide) fun st H9 n9 h9 s9 => ?_
        walk_at "go"
        refine sfld (s9 _ _ h8) cl nS (by show 3 < 1000; decide) rfl fun H10 h10 e10 => ?_
        exact fin st H9 H10 (by rw [h9]; unfold stL; rw [if_neg e]) s9 h10 e10
end
structure B1 (mg : Str → Option Value) : Prop where
  g_int : mg "int" = none
  g_len : mg "len" = none
  g_abs : mg "abs" = none
  g_list : mg "list" = none
  g_repr : mg "repr" = none
  g_range : mg "range" = none
  g_str : mg "str" = none
  g_isinstance : mg "isinstance" = none
  g_tuple : mg "tuple" = none
  g_sorted : mg "sorted" = none
  g_set : mg "set" = none
  g_enumerate : mg "enumerate" = none
  g_zip : mg "zip" = none
/-! ### rows of ends -/
def S4 : List Int := [0, 1, 2, 3]
def pick (S : Int → Bool) : List Int := S4.filter S
theorem asc_uniq : ∀ {a b : List Int}, a.Pairwise (· < ·) → b.Pairwise (· < ·) → (∀ k, k ∈ a ↔ k ∈ b) → a = b
  | [], [], _, _, _ => rfl
  | [], y :: b, _, _, h => by simpa using (h y).mpr List.mem_cons_self
  | x :: a, [], _, _, h => by simpa using (h x).mp List.mem_cons_self
  | x :: a, y :: b, ha, hb, h => by
    obtain ⟨hx, ha⟩ := List.pairwise_cons.mp ha
    obtain ⟨hy, hb2⟩ := List.pairwise_cons.mp hb
    have e : x = y := by
      rcases List.mem_cons.mp ((h x).mp List.mem_cons_self) with e | e
      · exact e
      · rcases List.mem_cons.mp ((h y).mpr List.mem_cons_self) with e' | e'
        · exact e'.symm
        · have := hy x e
          have := hx y e'
          omega
    subst e
    have t : ∀ k, k ∈ a ↔ k ∈ b := fun k => by
      refine ⟨fun z => ?_, fun z => ?_⟩
      · rcases List.mem_cons.mp ((h k).mp (List.mem_cons_of_mem _ z)) with e | e
        · have := hx k z
          omega
        · exact e
      · rcases List.mem_cons.mp ((h k).mpr (List.mem_cons_of_mem _ z)) with e | e
        · have := hy k z
          omega
        · exact e
    rw [asc_uniq ha hb2 t]
theorem s4_mem {k : Int} : k ∈ S4 ↔ 0 ≤ k ∧ k < 4 := by
  unfold S4
  simp only [List.mem_cons, List.not_mem_nil, or_false]
  omega
theorem pick_mem {S : Int → Bool} {k : Int} : k ∈ pick S ↔ (0 ≤ k ∧ k < 4) ∧ S k = true := by
  unfold pick
  rw [List.mem_filter, s4_mem]
theorem pick_asc (S : Int → Bool) : (pick S).Pairwise (· < ·) := List.Pairwise.filter _ (by unfold S4; decide)
theorem pick_len (S : Int → Bool) : (pick S).length ≤ 4 := List.length_filter_le _ _
theorem asc_pick {ns : List Int} {S T : Int → Bool} (h1 : ns.Pairwise (· < ·)) (h2 : ∀ k : Int, k ∈ ns ↔ S k = true) (h3 : ∀ k, S k = true ↔ (0 ≤ k ∧ k < 4) ∧ T k = true) : ns = pick T :=
  asc_uniq h1 (pick_asc T) fun k => by rw [h2 k, h3 k, pick_mem]
theorem asc_of_le : ∀ {ns : List Int}, ns.Pairwise (· ≤ ·) → ns.Nodup → ns.Pairwise (· < ·)
  | [], _, _ => .nil
  | x :: l, h, n => by
    obtain ⟨h1, h2⟩ := List.pairwise_cons.mp h
    obtain ⟨n1, n2⟩ := List.nodup_cons.mp n
    refine List.pairwise_cons.mpr ⟨fun y hy => ?_, asc_of_le h2 n2⟩
    have := h1 y hy
    rcases Int.lt_or_eq_of_le this with z | z
    · exact z
    · exact absurd (z ▸ hy) n1
theorem sorted_pick {ns xs : List Int} {T : Int → Bool} (p : ns.Perm xs) (h1 : ns.Pairwise (· ≤ ·)) (nd : xs.Nodup) (h3 : ∀ k, k ∈ xs ↔ (0 ≤ k ∧ k < 4) ∧ T k = true) : ns = pick T :=
  asc_uniq (asc_of_le h1 (p.nodup_iff.mpr nd)) (pick_asc T) fun k => by rw [p.mem_iff, h3 k, pick_mem]
def RowsAt (H : Hp) (t : Addr) (rows : List (List Int)) : Prop := ∃ ts : List Addr, H t = some (.tup (ts.map V.ref)) ∧ ts.length = rows.length ∧ ∀ (j : Nat) (a : Addr) (r : List Int), ts[j]? = some a → rows[j]? = some r → H a = some (.tup (r.map V.int))
/-- the same as a list that is being filled -/
def RowsL (H : Hp) (D : Addr) (rows : List (List Int)) : Prop := ∃ ts : List Addr, H D = some (.lst (ts.map V.ref)) ∧ ts.length = rows.length ∧ ∀ (j : Nat) (a : Addr) (r : List Int), ts[j]? = some a → rows[j]? = some r → H a = some (.tup (r.map V.int))
theorem RowsAt.same {H H' : Hp} {t : Addr} {rows : List (List Int)} (h : RowsAt H t rows) (s : Same H H') : RowsAt H' t rows := by
  obtain ⟨ts, h1, h2, h3⟩ := h
  exact ⟨ts, s _ _ h1, h2, fun j a r e1 e2 => s _ _ (h3 j a r e1 e2)⟩
theorem RowsL.same {H H' : Hp} {t : Addr} {rows : List (List Int)} (h : RowsL H t rows) (s : Same H H') : RowsL H' t rows := by
  obtain ⟨ts, h1, h2, h3⟩ := h
  exact ⟨ts, s _ _ h1, h2, fun j a r e1 e2 => s _ _ (h3 j a r e1 e2)⟩
theorem snoc_at {α : Type} {l : List α} {x y : α} {i : Nat} (e : (l ++ [x])[i]? = some y) : l[i]? = some y ∨ (i = l.length ∧ y = x) := by
  rcases Nat.lt_or_ge i l.length with c | c
  · rw [List.getElem?_append_left c] at e
    exact .inl e
  · rw [List.getElem?_append_right c] at e
    have hz : i - l.length = 0 := by
      have := (List.getElem?_eq_some_iff.mp e).1
      simp at this
      omega
    rw [hz] at e
    exact .inr ⟨by omega, (Option.some.inj e).symm⟩
/-- one more row -/
theorem RowsL.snoc {H : Hp} {D t : Addr} {rows : List (List Int)} {row : List Int} (h : RowsL H D rows) (ht : H t = some (.tup (row.map V.int))) :
    ∃ acc, H D = some (.lst acc) ∧ acc.length = rows.length ∧ RowsL (upd H D (.lst (acc ++ [.ref t]))) D (rows ++ [row]) := by
  obtain ⟨ts, h1, h2, h3⟩ := h
  have nD : ∀ q xs, H q = some (.tup xs) → q ≠ D := fun q xs e z => by
    rw [z, h1] at e
    cases e
  refine ⟨_, h1, by rw [List.length_map]; exact h2, ts ++ [t], by rw [upd_same, List.map_append]; rfl, by rw [List.length_append, List.length_append, h2]; rfl, fun j a r e1 e2 => ?_⟩
  rcases snoc_at e1 with f1 | ⟨f1, g1⟩
  · have hj := (List.getElem?_eq_some_iff.mp f1).1
    rw [List.getElem?_append_left (by omega)] at e2
    have := h3 j a r f1 e2
    rw [upd_ne (nD _ _ this)]
    exact this
  · rcases snoc_at e2 with f2 | ⟨_, g2⟩
    · have := (List.getElem?_eq_some_iff.mp f2).1
      omega
    · rw [g1, g2, upd_ne (nD _ _ ht)]
      exact ht
theorem RowsL.at_ {H : Hp} {D : Addr} {rows : List (List Int)} (h : RowsL H D rows) : ∃ xs, H D = some (.lst xs) := let ⟨_, h1, _⟩ := h; ⟨_, h1⟩
theorem RowsL.nil {H : Hp} {D : Addr} (h : H D = some (.lst [])) : RowsL H D [] := ⟨[], h, rfl, fun j a r e => by cases e⟩
/-- tuple(..) of the list -/
theorem RowsL.tup {H : Hp} {D t : Addr} {rows : List (List Int)} (h : RowsL H D rows) (nt : H t = none) : ∃ xs, H D = some (.lst xs) ∧ xs.length = rows.length ∧ RowsAt (upd H t (.tup xs)) t rows := by
  obtain ⟨ts, h1, h2, h3⟩ := h
  refine ⟨_, h1, by rw [List.length_map]; exact h2, ts, upd_same, h2, fun j a r e1 e2 => ?_⟩
  have := h3 j a r e1 e2
  rw [upd_ne (ne_of_none this nt)]
  exact this
theorem big_of {n : Nat} (h : n ≤ 1000) : n < sizeLine := Nat.lt_of_le_of_lt h (by decide)
def stN (w : Str) : List Int := if w = "once" then [0, 1, 2, 3] else [0, 1]
theorem stN_L (w : Str) : stL w = (stN w).map V.int := by
  unfold stL stN
  split <;> rfl
def dvI (d : Str) (s : Int) : List Int := if inV (.int (Builtin.bitAnd s 1)) (invL d) = true then [Builtin.bitXor s 1] else []
theorem dvI_V (d : Str) (s : Int) : dvF d s = (dvI d s).map V.int := by
  unfold dvF dvI
  split <;> rfl
def clo (d : Str) (s : Int) : List Int := pick fun k => decide (k = s) || (dvI d s).contains k
def betw (q : Bool) (w d : Str) : List (List Int) := (stN w).map fun s => if q = true then [s] else clo d s
def letR (r w c : Str) : List (List Int) := (stN w).map fun s => if c = "r" then [rdF r s] else if c = "1" then [awF w s 1] else [awF w s 0]
def joinR (F G : List (List Int)) : List (List Int) := F.map fun e => pick fun k => e.any fun m => (G.getD m.toNat []).contains k
/-- rows of ends in a kind of n states -/
structure Rw (n : Nat) (F : List (List Int)) : Prop where
  len : F.length = n
  bd : ∀ e ∈ F, ∀ k ∈ e, 0 ≤ k ∧ k < n
  few : ∀ e ∈ F, e.length ≤ 4
theorem Rw.joinR {n : Nat} {F G : List (List Int)} (h : Rw n F) (g : Rw n G) : Rw n (joinR F G) := by
  refine ⟨by unfold Law.joinR; rw [List.length_map]; exact h.len, fun e he k hk => ?_, fun e he => ?_⟩
  · obtain ⟨e0, h0, rfl⟩ := List.mem_map.mp he
    obtain ⟨_, h2⟩ := pick_mem.mp hk
    obtain ⟨m, _, h3⟩ := List.any_eq_true.mp h2
    have h3 : k ∈ G.getD m.toNat [] := by simpa using h3
    rw [List.getD_eq_getElem?_getD] at h3
    cases eg : G[m.toNat]? with
    | none =>
      rw [eg] at h3
      cases h3
    | some x =>
      rw [eg] at h3
      exact g.bd x (List.mem_of_getElem? eg) k h3
  · obtain ⟨e0, h0, rfl⟩ := List.mem_map.mp he
    exact pick_len _
def rTupOf (K : PySem.W.Frag) : List V → Hp → VK → Prop := fun xs H Q => ∃ p ys, xs = [.ref p] ∧ ((SqL K H p ys ∧ ∀ l, H l = none → Q (.ref l) (upd H l (.tup ys))) ∨ (SqT K H p ys ∧ Q (.ref p) H))
theorem cr_tupOf {X : Cx} : CallR X (.type "tuple") (rTupOf X.K) := call_tuple_of
def rListOf (K : PySem.W.Frag) : List V → Hp → VK → Prop := fun xs H Q => ∃ p ys, xs = [.ref p] ∧ (SqL K H p ys ∨ SqT K H p ys) ∧ ∀ l, H l = none → Q (.ref l) (upd H l (.lst ys))
theorem cr_listOf {X : Cx} : CallR X (.type "list") (rListOf X.K) := call_list_of
/-- the scope of a block within a block -/
def relS (sc scope : Scope) : Scope := { scope with names := scope.names.map fun (n, k) => if (k == NameKind.free && sc.kind == .function && sc.names.lookup n == some .cell) then (n, NameKind.cell) else (n, k) }
/-! ### promises -/
def spCL : Sp := fun vs H Q _ => ∃ x : Str, vs = [.str x] ∧ x.cps.size ≤ 40 ∧ (∀ c ∈ x.cps.toList, c ∈ ("01r" : Str).cps.toList) ∧ ∀ H', Same H H' → Q .non H'
def spJoin : Sp := fun vs H Q _ => ∃ (f g : Addr) (F G : List (List Int)) (n : Nat), vs = [.ref f, .ref g] ∧ RowsAt H f F ∧ RowsAt H g G ∧ Rw n F ∧ Rw n G ∧ n ≤ 4 ∧ ∀ t H', H t = none → RowsAt H' t (joinR F G) → Same H H' → Q (.ref t) H'
section
variable {P : Program} {w : World} {K : PySem.W.Frag} {mg : Str → Option Value} {base : Heap}
theorem back {H H' : Hp} {a : Addr} (s : Same H H') (h : H' a = none) : H a = none := by
  cases e : H a with
  | none => rfl
  | some o =>
    rw [s _ _ e] at h
    cases h
theorem ok_joined (D : DefAt K mg "joined" s_joined ["first", "second"]) (B : B1 mg) : Cal P w K mg base 1 "joined" spJoin := by
  refine D.cal sc_joined (fun vs H Q E h => ?_) (fun f cdv A outer s H vs Q E rm gd h => ?_)
  · obtain ⟨f, g, F, G, n, rfl, _⟩ := h
    rfl
  · obtain ⟨f, g, F, G, n, rfl, hF, hG, rF, rG, n4, q⟩ := h
    refine ⟨_, (pss_one (ps_ret (pe_callTy call_tuple_of (by rfl) B.g_tuple (by decide +kernel) (pa_cons (pe_lc (own := [("ends", 4)]) (g := (gName 4)) (by rfl) sc_joined.nd (pi_tup (pv 0)) (blkOk_by (own := [("ends", 4)]) (N := ["first", "second", "middle", "end", "ends"]) (sc := defScope s_joined) (by decide +kernel)) (fun _ _ _ _ _ => (pg_name (i := 4) sc_joined.nd rfl (Or.inl rfl))) (fun _ _ _ _ _ => pts_nil) (fun _ _ _ _ _ => (show PE _ _ (tCB (rTupOf K) (tCons (tCB (rSortedSet w) (tCons (tSc2 w (iTup K (tVar 4)) (gName 2) tYes (iTup K (tOp (rIxT K) (tVar 1) (tVar 2))) (gName 3) tYes (tVar 3) [2, 3] [3]) tNil)) tNil)) from pe_callTy (T := "tuple") (r := rTupOf K) cr_tupOf (by rfl) B.g_tuple (by decide +kernel) (pa_cons (pe_callB (id := "sorted") (r := rSortedSet w) (cr_sortedSet rfl) (by rfl) B.g_sorted (by decide +kernel) (pa_cons (pe_sc2 (own := [("middle", 2), ("end", 3)]) (vs1 := [3]) (wi := iTup K (tVar 4)) (g := gName 2) (tt := tYes) (wi1 := iTup K (tOp (rIxT K) (tVar 1) (tVar 2))) (g1 := gName 3) (tt1 := tYes) (te := tVar 3) (by rfl) sc_joined.nd (pi_tup (pv 4)) (show BlkOk _ _ _ _ from blkOk_by (N := ["first", "second", "middle", "end", "ends"]) (sc := relS (defScope s_joined) _) (by decide +kernel)) (by decide) (fun _ _ _ _ _ => (pg_name (i := 2) sc_joined.nd rfl (Or.inl rfl))) (fun _ _ _ _ _ => pts_nil) (fun _ _ _ _ _ => pi_tup (pe_ix (r := rIxT K) ix_tup (pv 1) (pv 2) (fun _ _ => rfl))) (fun _ _ _ _ _ => (pg_name (i := 3) sc_joined.nd rfl (Or.inl rfl))) (fun _ _ _ _ _ => pts_nil) (fun _ _ _ _ _ => (pv 3))) pa_nil)) pa_nil)))) pa_nil)))), ?_⟩
    walk_at "go"
    obtain ⟨tf, f1, f2, f3⟩ := id hF
    obtain ⟨tg, g1, g2, g3⟩ := id hG
    refine over_t (SqT.of f1) ?_
    intro D nD
    have zD : Same H (upd H D (.lst [])) := fun b u e => by
      rw [upd_ne (ne_of_none e nD)]
      exact e
    refine lc_tup (K := K) (a := f) (xs := tf.map V.ref) (fun i H' => RowsL H' D (joinR (F.take i) G) ∧ Same H H') ⟨.nil upd_same, zD⟩ (fun i H' _ ⟨_, s⟩ => SqT.of (s _ _ f1)) (fun i y H1 hy ⟨hD, s1⟩ => ?_) (fun H1 ⟨hD, s1⟩ => ?_)
    · obtain ⟨a, ha, rfl⟩ : ∃ a, tf[i]? = some a ∧ y = .ref a := by
        rw [List.getElem?_map] at hy
        cases z : tf[i]? with
        | none =>
          rw [z] at hy
          cases hy
        | some c =>
          rw [z] at hy
          exact ⟨c, rfl, (Option.some.inj hy).symm⟩
      have hi := (List.getElem?_eq_some_iff.mp ha).1
      obtain ⟨e, he⟩ : ∃ e, F[i]? = some e := ⟨_, List.getElem?_eq_getElem (by omega)⟩
      have hea := s1 _ _ (f3 i a e ha he)
      have e4 := rF.few e (List.mem_of_getElem? he)
      have eb := rF.bd e (List.mem_of_getElem? he)
      have lF : F.length ≤ 4 := by rw [rF.len]; exact n4
      walk_at "go"
      refine ⟨rfl, ?_⟩
      try unfold tYes
      refine iteT ?_
      walk_at "go"
      refine w_sc2 ?_
      walk_at "go"
      refine over_t (SqT.of hea) ?_
      intro D2 nD2
      have z2 : Same H1 (upd H1 D2 (SetO w D2 (fun _ => false) 0)) := fun b u e => by
        rw [upd_ne (ne_of_none e nD2)]
        exact e
      refine cl_tup (K := K) (a := a) (xs := e.map V.int) (fun i' H' => ∃ (S : Int → Bool) (m' : Nat), H' D2 = some (SetO w D2 S m') ∧ m' ≤ 4 * i' ∧ (∀ k, S k = true ↔ ∃ m ∈ e.take i', k ∈ G.getD m.toNat []) ∧ Same H1 H') ⟨fun _ => false, 0, upd_same, by omega, fun k => by simp, z2⟩ (fun i' H' _ ⟨_, _, _, _, _, s⟩ => SqT.of (s _ _ hea)) (fun i' y' H2 hy' ⟨S, m', hS, hm, hk, s2⟩ => ?_) (fun H2 ⟨S, m', hS, hm, hk, s2⟩ => ?_)
      · obtain ⟨mi, hmi, rfl⟩ : ∃ mi, e[i']? = some mi ∧ y' = .int mi := by
          rw [List.getElem?_map] at hy'
          cases z : e[i']? with
          | none =>
            rw [z] at hy'
            cases hy'
          | some c =>
            rw [z] at hy'
            exact ⟨c, rfl, (Option.some.inj hy').symm⟩
        obtain ⟨b0, b1⟩ := eb mi (List.mem_of_getElem? hmi)
        obtain ⟨m, rfl⟩ := Int.eq_ofNat_of_zero_le b0
        have hmG : m < G.length := by rw [rG.len]; omega
        obtain ⟨row, hrow⟩ : ∃ row, G[m]? = some row := ⟨_, List.getElem?_eq_getElem hmG⟩
        obtain ⟨b, hb⟩ : ∃ b, tg[m]? = some b := ⟨_, List.getElem?_eq_getElem (by omega)⟩
        have eG : G.getD m [] = row := by rw [List.getD_eq_getElem?_getD, hrow]; rfl
        have hbr := s1 _ _ (g3 m b row hb hrow)
        have r4 := rG.few row (List.mem_of_getElem? hrow)
        have i4 : i' < 4 := Nat.lt_of_lt_of_le (List.getElem?_eq_some_iff.mp hmi).1 e4
        walk_at "go"
        refine ⟨rfl, ?_⟩
        try unfold tYes
        refine iteT ?_
        unfold tNext1
        walk_at "go"
        refine w_ixT (SqT.of (s2 _ _ (s1 _ _ g1))) (v := .ref b) (atI_nat (by rw [List.getElem?_map, hb]; rfl)) ?_
        refine over_t (SqT.of (s2 _ _ hbr)) ?_
        refine cl_tup (K := K) (a := b) (xs := row.map V.int) (fun j H' => ∃ (S : Int → Bool) (m' : Nat), H' D2 = some (SetO w D2 S m') ∧ m' ≤ 4 * i' + j ∧ (∀ k, S k = true ↔ (∃ m ∈ e.take i', k ∈ G.getD m.toNat []) ∨ k ∈ row.take j) ∧ Same H1 H') ⟨S, m', hS, by omega, fun k => by rw [hk k]; simp, s2⟩ (fun j H' _ ⟨_, _, _, _, _, s⟩ => SqT.of (s _ _ hbr)) (fun j y'' H3 hy'' ⟨S3, m3, hS3, hm3, hk3, s3⟩ => ?_) (fun H3 ⟨S3, m3, hS3, hm3, hk3, s3⟩ => ?_)
        · obtain ⟨v, hv, rfl⟩ : ∃ v, row[j]? = some v ∧ y'' = .int v := by
            rw [List.getElem?_map] at hy''
            cases z : row[j]? with
            | none =>
              rw [z] at hy''
              cases hy''
            | some c =>
              rw [z] at hy''
              exact ⟨c, rfl, (Option.some.inj hy'').symm⟩
          have hj := (List.getElem?_eq_some_iff.mp hv).1
          walk_at "go"
          refine ⟨rfl, ?_⟩
          try unfold tYes
          refine iteT ?_
          unfold KG.tAdd
          walk_at "go"
          refine ⟨v, S3, m3, rfl, hS3, Nat.lt_of_le_of_lt (show m3 + 1 ≤ 100 by omega) (by decide), _, _, upd_same, by split <;> omega, fun k => ?_, fun q o z => ?_⟩
          · rw [Bool.or_eq_true, hk3 k, decide_eq_true_eq, List.take_add_one, hv, List.mem_append, or_assoc]
            simp
          · have nq : q ≠ D2 := fun z' => by
              rw [z', nD2] at z
              cases z
            rw [upd_ne nq]
            exact s3 _ _ z
        · refine ⟨S3, m3, hS3, ?_, fun k => ?_, s3⟩
          · rw [List.length_map] at hm3
            omega
          · rw [hk3 k, List.length_map, List.take_length, List.take_add_one, hmi]
            constructor
            · rintro (⟨x, hx, hxk⟩ | hxk)
              · exact ⟨x, List.mem_append_left _ hx, hxk⟩
              · exact ⟨(m : Int), List.mem_append_right _ (by simp), by rw [Int.toNat_natCast, eG]; exact hxk⟩
            · rintro ⟨x, hx, hxk⟩
              rcases List.mem_append.mp hx with hx | hx
              · exact .inl ⟨x, hx, hxk⟩
              · obtain rfl : x = (m : Int) := by simpa using hx
                rw [Int.toNat_natCast, eG] at hxk
                exact .inr hxk
      · rw [List.length_map] at hm hk
        rw [List.take_length] at hk
        have row_ok : ∀ k, S k = true ↔ (0 ≤ k ∧ k < 4) ∧ (e.any fun m => (G.getD m.toNat []).contains k) = true := fun k => by
          rw [hk k, List.any_eq_true]
          constructor
          · rintro ⟨x, hx, hxk⟩
            refine ⟨?_, x, hx, by simpa using hxk⟩
            rw [List.getD_eq_getElem?_getD] at hxk
            cases eg : G[x.toNat]? with
            | none =>
              rw [eg] at hxk
              cases hxk
            | some rr =>
              rw [eg] at hxk
              have := rG.bd rr (List.mem_of_getElem? eg) k hxk
              omega
          · rintro ⟨_, x, hx, hxk⟩
            exact ⟨x, hx, by simpa using hxk⟩
        walk_at "go"
        refine ⟨D2, S, m', rfl, hS, by omega, fun ns p pw hm' hl np => ?_⟩
        have ens := asc_pick pw hm' row_ok
        subst ens
        walk_at "go"
        refine ⟨p, _, rfl, .inl ⟨SqL.of upd_same, fun l nl => ?_⟩⟩
        have zp : Same H2 (upd H2 p (.lst ((pick fun k => e.any fun m => (G.getD m.toNat []).contains k).map V.int))) := fun b u z => by
          rw [upd_ne (ne_of_none z np)]
          exact z
        have zl : Same _ (upd (upd H2 p (.lst ((pick fun k => e.any fun m => (G.getD m.toNat []).contains k).map V.int))) l (.tup ((pick fun k => e.any fun m => (G.getD m.toNat []).contains k).map V.int))) := fun b u z => by
          rw [upd_ne (ne_of_none z nl)]
          exact z
        obtain ⟨acc, h1, h2, h3⟩ := (((hD.same s2).same zp).same zl).snoc (t := l) upd_same
        have ef : joinR (F.take (i + 1)) G = joinR (F.take i) G ++ [pick fun k => e.any fun m => (G.getD m.toNat []).contains k] := by
          rw [List.take_add_one, he]
          unfold joinR
          rw [List.map_append]
          rfl
        have lj : (joinR (F.take i) G).length ≤ 4 := by
          unfold joinR
          rw [List.length_map, List.length_take]
          omega
        refine ⟨acc, h1, big_of (by omega), ef ▸ h3, fun q o z => ?_⟩
        have nq : q ≠ D := fun z' => by
          rw [z', nD] at z
          cases z
        rw [upd_ne nq]
        exact zl _ _ (zp _ _ (s2 _ _ (s1 _ _ z)))
    · walk_at "go"
      rw [List.length_map, f2, List.take_length] at hD
      obtain ⟨xs, hx⟩ := hD.at_
      refine ⟨D, xs, rfl, .inl ⟨SqL.of hx, fun l nl => ?_⟩⟩
      obtain ⟨xs', hx', _, h3⟩ := hD.tup nl
      rw [hx] at hx'
      cases hx'
      exact q l _ (back s1 nl) h3 (s1.trans fun b u z => by
        rw [upd_ne (ne_of_none z nl)]
        exact z)
end
end Law

set_option Elab.async false
set_option linter.all false
set_option maxRecDepth 100000
set_option maxHeartbeats 4000000
namespace Law
open PySem PySem.Spec PySem.Calls PyProof.Rows L2 KG LamX
local macro_rules | `(tactic| walk_at "1") => `(tactic| first
  | (with_reducible refine w_var rfl ?_) | (with_reducible refine w_c ?_) | (with_reducible refine w_seq ?_) | (with_reducible refine w_asg ?_) | (with_reducible refine w_gname ?_) | (with_reducible refine w_op ?_) | (with_reducible refine w_un ?_)
  | (with_reducible refine w_add ?_) | (with_reducible refine w_sub ?_) | ((with_reducible refine' w_mod ?mo ?_); (case mo => first | assumption | decide | omega)) | (with_reducible refine w_and ?_) | (with_reducible refine w_or ?_) | (with_reducible refine w_xor ?_)
  | (with_reducible refine w_gt ?_) | (with_reducible refine w_lt ?_) | (with_reducible refine w_ge ?_) | (with_reducible refine w_le ?_) | ((with_reducible refine' w_eq ?sc ?_); (case sc => rfl)) | ((with_reducible refine' w_ne ?sc ?_); (case sc => rfl))
  | (with_reducible refine w_ret ?_) | (with_reducible refine w_next ?_) | (with_reducible refine w_ifs ?_) | (with_reducible refine w_ifx ?_) | (with_reducible refine w_test ?_) | (with_reducible refine w_tB ?_) | (with_reducible refine w_bl ?_)
  | ((with_reducible refine' w_ixL ?ixh ?ixa ?_); (case ixh => first | exact SqL.of (by assumption)); (case ixa => first | rfl | skip)) | ((with_reducible refine' w_ixT ?ixh ?ixa ?_); (case ixh => first | exact SqT.of (by assumption)); (case ixa => first | rfl | skip))
  | ((with_reducible refine' w_fld ?_)) | ((with_reducible refine' fld ?fh ?fc ?fn ?fl ?_); (case fh => assumption); (case fc => assumption); (case fn => assumption); (case fl => rfl)) | (with_reducible refine w_sfld ?_)
  | (with_reducible refine Or.inl ⟨_, rfl, ?_⟩) | (with_reducible refine w_gsub ?_) | (with_reducible refine w_andV ?_) | (with_reducible refine w_orV ?_)
  | (with_reducible refine w_nil ?_) | (with_reducible refine w_cons ?_) | (with_reducible refine w_tup ?_) | (with_reducible refine w_lst ?_) | (with_reducible refine w_and2 ?_) | (with_reducible refine w_or2 ?_) | (with_reducible refine w_not ?_) | (with_reducible refine w_cb ?_) | (with_reducible refine w_call ?_) | (with_reducible refine w_par ?_) | (with_reducible refine w_pnil ?_) | (with_reducible refine w_pcons ?_) | (with_reducible refine w_dput ?_) | (with_reducible refine w_dget ?_) | (with_reducible refine w_for ?_) | (with_reducible refine w_itup ?_) | (with_reducible refine w_ilist ?_) | (with_reducible refine w_irng ?_) | (with_reducible refine w_meth ?_) | (with_reducible refine w_make ?_) | (with_reducible refine w_makeK ?_) | (with_reducible refine w_methK ?_) | ((with_reducible refine' mth ?mh ?ml ?_); (case mh => assumption); (case ml => rfl)) | (with_reducible refine w_drop ?_))
local macro_rules | `(tactic| walk_at "go") => `(tactic| ((repeat (walk_at "1")); try dsimp only))
local macro_rules | `(tactic| walk_at "1") => `(tactic| first
  | (with_reducible refine w_notV ?_) | (with_reducible refine w_callK ?_) | (with_reducible refine w_lc ?_) | (with_reducible refine w_chain ?_) | (with_reducible refine w_neg ?_) | ((with_reducible refine' w_shr ?mo ?_); (case mo => first | assumption | omega)))
def rIntS : List V → Hp → VK → Prop := fun xs H Q => ∃ a n, xs = [.str a] ∧ PySem.intText? a = some n ∧ a.length ≤ 640 ∧ Q (.int n) H
theorem cr_intS {X : Cx} : CallR X (.type "int") rIntS := call_int_str
theorem cut_all {x : Str} (h : x.cps.size ≤ 40) : cutS x none (some 40) = x := by
  unfold cutS
  have e : HT.sIx x.length 0 none = 0 := rfl
  have e2 : HT.sIx x.length x.length (some 40) = x.cps.size := by
    show HT.sIx x.cps.size x.cps.size (some 40) = x.cps.size
    unfold HT.sIx
    simp
    omega
  rw [e, e2, List.drop_zero, Nat.sub_zero, ← Array.length_toList, List.take_length]
def Kd (r w d : Str) : Prop := r ∈ RD ∧ w ∈ WR ∧ d ∈ DV
def spEWL (C : Addr) : Sp := fun vs H Q _ => ∃ (k : Addr) (q : Bool) (r w d : Str), vs = [.ref k, .bl q] ∧ KindAt C H k r w d ∧ Kd r w d ∧ ∀ t H', H t = none → RowsAt H' t (betw q w d) → Same H H' → Q (.ref t) H'
def spEOL (C : Addr) : Sp := fun vs H Q _ => ∃ (k : Addr) (c r w d : Str), vs = [.ref k, .str c] ∧ (c = "0" ∨ c = "1" ∨ c = "r") ∧ KindAt C H k r w d ∧ Kd r w d ∧ ∀ t H', H t = none → RowsAt H' t (letR r w c) → Same H H' → Q (.ref t) H'
theorem stN_4 : ∀ w : Str, ∀ s ∈ stN w, St4 s := fun w s hs => by
  unfold stN at hs
  unfold St4
  split at hs <;> simp at hs <;> omega
theorem KindAt.st {C k : Addr} {H : Hp} {r w d : Str} (h : KindAt C H k r w d) : ∃ dx st, H k = some (.ins C dx (kf r w d st)) ∧ H st = some (.tup ((stN w).map V.int)) := by
  obtain ⟨dx, st, h1, h2⟩ := h
  exact ⟨dx, st, h1, by rw [← stN_L]; exact h2⟩
theorem KindAt.sm {C k : Addr} {H H' : Hp} {r w d : Str} (h : KindAt C H k r w d) (s : Same H H') : KindAt C H' k r w d := by
  obtain ⟨dx, st, h1, h2⟩ := h
  exact ⟨dx, st, s _ _ h1, s _ _ h2⟩
theorem ints_at {l : List Int} {i : Nat} {y : V} (hy : (l.map V.int)[i]? = some y) : ∃ s, l[i]? = some s ∧ y = .int s := by
  rw [List.getElem?_map] at hy
  cases z : l[i]? with
  | none =>
    rw [z] at hy
    cases hy
  | some c =>
    rw [z] at hy
    exact ⟨c, rfl, (Option.some.inj hy).symm⟩
theorem stN_len (w : Str) : (stN w).length ≤ 4 := by
  unfold stN
  split <;> decide
theorem map_snoc {l : List Int} {i : Nat} {s : Int} (f : Int → List Int) (h : l[i]? = some s) : (l.take (i + 1)).map f = (l.take i).map f ++ [f s] := by
  rw [List.take_add_one, h, List.map_append]
  rfl
theorem clo_fact : ∀ d ∈ DV, ∀ s ∈ S4, ([s] ++ dvI d s).Nodup ∧ (∀ k ∈ [s] ++ dvI d s, 0 ≤ k ∧ k < 4) ∧ ([s] ++ dvI d s).length ≤ 2 := by decide +kernel
section
variable {P : Program} {w : World} {K : PySem.W.Frag} {mg : Str → Option Value} {base : Heap} {C aW aI : Addr} {mc : Value}
theorem ok_cl (D : DefAt K mg "check_letters" s_check_letters ["value"]) (B : B1 mg) (hM : ∃ t, mg "MOST_LETTERS" = some (.int 40 t)) (hL : ∃ t, mg "LETTERS" = some (.str "01r" t)) : Cal P w K mg base 1 "check_letters" spCL := by
  refine D.cal sc_check_letters (fun vs H Q E h => ?_) (fun f cdv A outer s H vs Q E rm gd h => ?_)
  · obtain ⟨x, rfl, _⟩ := h
    rfl
  · obtain ⟨x, rfl, hx, hc, q⟩ := h
    obtain ⟨tM, gM⟩ := hM
    obtain ⟨tL, gL⟩ := hL
    have big : x.length ≤ sizeLine := Nat.le_trans (show x.cps.size ≤ 40 from hx) (by decide)
    refine ⟨_, (pss_cons (ps_if (pt_not (pt_val (pe_callB call_isi (by rfl) B.g_isinstance (by decide +kernel) (pa_cons (pv 0) (pa_cons (pe_bltn (v := .ty "str") rfl B.g_str (by decide +kernel) rfl) pa_nil)))))
      (pss_one ps_never)
      pss_nil)
    (pss_cons (ps_for PassesOwn.never rfl (pi_enumS (by rfl) B.g_enumerate (pa_cons (pe_slice sl_str (pv 0) po_none (po_some (pe_glob (v := .int 40) rfl gM ⟨_, rfl⟩))) pa_nil)) (pg_tup rfl (pgs_cons (pg_name (i := 1) sc_check_letters.nd rfl (Or.inl rfl)) (pgs_cons (pg_name (i := 2) sc_check_letters.nd rfl (Or.inl rfl)) pgs_nil)))
      (pss_one (ps_if (pt_cmpR op_notIn_sign (pv 2) (pe_glob (v := .str "01r") rfl gL ⟨_, rfl⟩) rfl)
        (pss_one ps_never)
        pss_nil)))
    (pss_one (ps_if (pt_cmpR op_gt (pe_callB call_len_str (by rfl) B.g_len (by decide +kernel) (pa_cons (pv 0) pa_nil)) (pe_glob (v := .int 40) rfl gM ⟨_, rfl⟩) (nomark _))
      (pss_one ps_never)
      pss_nil)))), ?_⟩
    walk_at "go"
    refine ⟨.str x, .ty "str", .type "str", .type "str", true, rfl, .ty _, .base (.str x), if_pos (beq_self_eq_true _), ?_⟩
    walk_at "go"
    refine iteF ?_
    walk_at "go"
    unfold iEnumS
    walk_at "go"
    unfold tSl
    walk_at "go"
    unfold tNoPart tPart
    walk_at "go"
    refine ⟨40, rfl, ?_⟩
    refine ⟨x, rfl, big, ?_⟩
    rw [cut_all hx]
    walk_at "go"
    refine ⟨x, rfl, ?_⟩
    refine ⟨fun i m σ H' => m = x.cps.size - i ∧ i ≤ x.cps.size ∧ (∃ v1 v2, σ = [some (.str x), v1, v2]) ∧ Same H H', ⟨_, rfl, Nat.zero_le _, ⟨none, none, rfl⟩, fun _ _ z => z⟩, ?_⟩
    rintro i m σ H1 ⟨rfl, hi, ⟨v1, v2, rfl⟩, s1⟩
    rcases Nat.lt_or_ge i x.cps.size with lt | ge
    · refine .inr ⟨lt, fun σ' H' => (∃ v1 v2, σ' = [some (.str x), v1, v2]) ∧ Same H H', fun σ' H' ⟨e, s⟩ => ⟨_, by omega, rfl, lt, e, s⟩, fun y H2 ⟨T2, c, ey, nT, eH, ec⟩ => ?_⟩
      subst ey
      subst eH
      have sT : Same H1 (upd H1 T2 (.tup [.int (i : Nat), .str ⟨#[c]⟩])) := fun b u z => by
        rw [upd_ne (ne_of_none z nT)]
        exact z
      refine ⟨T2, _, rfl, SqT.of upd_same, rfl, _, _, rfl, _, _, rfl, rfl, ?_⟩
      walk_at "go"
      have hcm : c ∈ ("01r" : Str).cps.toList := hc c (List.mem_of_getElem? (by rw [Array.getElem?_toList]; exact ec))
      refine ⟨c, "01r", rfl, rfl, ?_⟩
      rw [decide_eq_true hcm]
      refine ⟨false, rfl, iteF ?_⟩
      walk_at "go"
      exact ⟨⟨_, _, rfl⟩, s1.trans sT⟩
    · obtain rfl : i = x.cps.size := by omega
      refine .inl ⟨rfl, ?_⟩
      walk_at "go"
      refine ⟨x, rfl, big, ?_⟩
      walk_at "go"
      have nz : decide ((40 : Int) < (x.length : Int)) = false := decide_eq_false (by show ¬ (40 : Int) < (x.cps.size : Int); omega)
      rw [nz]
      refine iteF ?_
      walk_at "go"
      exact q H1 s1
theorem ok_ewl (D : DefAt K mg "ends_without_letters" s_ends_without_letters ["kind", "quiet"]) (B : B1 mg) (T : KT K w mg C aW aI mc) {f5 : Addr} (mDE : Met P w K mg base 1 C "deeds" f5 (spDE C)) : Cal P w K mg base 2 "ends_without_letters" (spEWL C) := by
  refine D.cal (k := 1) sc_ends_without_letters (fun vs H Q E h => ?_) (fun f cdv A outer s H vs Q E rm gd h => ?_)
  · obtain ⟨k, qt, r, wr, d, rfl, _⟩ := h
    rfl
  · obtain ⟨k, qt, r, wr, d, rfl, hk, kd, q⟩ := h
    obtain ⟨dx, st, hk1, hst⟩ := hk.st
    have cl := T.cl
    have nS := T.nS
    refine ⟨_, (pss_cons (ps_if (pt_val (pv 1))
      (pss_one (ps_ret (pe_callTy call_tuple_of (by rfl) B.g_tuple (by decide +kernel) (pa_cons (pe_lc (own := [("state", 2)]) (g := (gName 2)) (by rfl) sc_ends_without_letters.nd (pi_tup (pe_fld (pv 0) rfl)) (blkOk_by (own := [("state", 2)]) (N := ["kind", "quiet", "state"]) (sc := defScope s_ends_without_letters) (by decide +kernel)) (fun _ _ _ _ _ => (pg_name (i := 2) sc_ends_without_letters.nd rfl (Or.inl rfl))) (fun _ _ _ _ _ => pts_nil) (fun _ _ _ _ _ => (pe_tup (pa_cons (pv 2) pa_nil)))) pa_nil))))
      pss_nil)
    (pss_one (ps_ret (pe_callTy call_tuple_of (by rfl) B.g_tuple (by decide +kernel) (pa_cons (pe_lc (own := [("state", 2)]) (g := (gName 2)) (by rfl) sc_ends_without_letters.nd (pi_tup (pe_fld (pv 0) rfl)) (blkOk_by (own := [("state", 2)]) (N := ["kind", "quiet", "state"]) (sc := defScope s_ends_without_letters) (by decide +kernel)) (fun _ _ _ _ _ => (pg_name (i := 2) sc_ends_without_letters.nd rfl (Or.inl rfl))) (fun _ _ _ _ _ => pts_nil) (fun _ _ _ _ _ => (show PE _ _ (tCB (rTupOf K) (tCons (tCB (rSorted K) (tCons (tOp rCat (tLst (tCons (tVar 2) tNil)) (tCB (rListOf K) (tCons (tMeth C "deeds" (spDE C) [] E0 (tVar 0) (tCons (tVar 2) tNil)) tNil))) tNil)) tNil)) from pe_callTy (T := "tuple") (r := rTupOf K) cr_tupOf (by rfl) B.g_tuple (by decide +kernel) (pa_cons (pe_callB (id := "sorted") (r := rSorted K) cr_sorted (by rfl) B.g_sorted (by decide +kernel) (pa_cons (pe_op (r := rCat) op_cat (pe_lst (pa_cons (pv 2) pa_nil)) (pe_callTy (T := "list") (r := rListOf K) cr_listOf (by rfl) B.g_list (by decide +kernel) (pa_cons (pm mDE T.cl rm (by decide) gd (pv 0) (pa_cons (pv 2) pa_nil)) pa_nil))) pa_nil)) pa_nil)))) pa_nil))))), ?_⟩
    have done : ∀ (D : Addr) (f : Int → List Int) (H1 : Hp), betw qt wr d = (stN wr).map f → RowsL H1 D ((stN wr).map f) → H D = none → Same H H1 → rTupOf K [.ref D] H1 Q := fun D f H1 e hD nD s1 => by
      obtain ⟨xs, hx⟩ := hD.at_
      refine ⟨D, xs, rfl, .inl ⟨SqL.of hx, fun l nl => ?_⟩⟩
      obtain ⟨xs', hx', _, h3⟩ := hD.tup nl
      rw [hx] at hx'
      cases hx'
      exact q l _ (back s1 nl) (e ▸ h3) (s1.trans fun b u z => by
        rw [upd_ne (ne_of_none z nl)]
        exact z)
    cases qt with
    | true =>
      walk_at "go"
      refine iteT ?_
      walk_at "go"
      refine over_t (SqT.of hst) ?_
      intro D nD
      have zD : Same H (upd H D (.lst [])) := fun b u e => by
        rw [upd_ne (ne_of_none e nD)]
        exact e
      refine lc_tup (K := K) (a := st) (xs := (stN wr).map V.int) (fun i H' => RowsL H' D (((stN wr).take i).map fun s => [s]) ∧ Same H H') ⟨.nil upd_same, zD⟩ (fun i H' _ ⟨_, s⟩ => SqT.of (s _ _ hst)) (fun i y H1 hy ⟨hD, s1⟩ => ?_) (fun H1 ⟨hD, s1⟩ => ?_)
      · obtain ⟨s, hs, rfl⟩ := ints_at hy
        walk_at "go"
        refine ⟨rfl, ?_⟩
        try unfold tYes
        refine iteT ?_
        walk_at "go"
        refine new (show 1 ≤ sizeLine by decide) fun t H2 nt ht s2 => ?_
        obtain ⟨acc, h1, h2, h3⟩ := (hD.same s2).snoc (row := [s]) ht
        have lt := stN_len wr
        rw [List.length_map, List.length_take] at h2
        refine ⟨acc, h1, big_of (by omega), by rw [map_snoc _ hs]; exact h3, fun b u z => ?_⟩
        rw [upd_ne (ne_of_none z nD)]
        exact s2 _ _ (s1 _ _ z)
      · rw [List.length_map, List.take_length] at hD
        walk_at "go"
        exact done D (fun s => [s]) H1 (by unfold betw; simp) hD nD s1
    | false =>
      walk_at "go"
      refine iteF ?_
      walk_at "go"
      refine over_t (SqT.of hst) ?_
      intro D nD
      have zD : Same H (upd H D (.lst [])) := fun b u e => by
        rw [upd_ne (ne_of_none e nD)]
        exact e
      refine lc_tup (K := K) (a := st) (xs := (stN wr).map V.int) (fun i H' => RowsL H' D (((stN wr).take i).map (clo d)) ∧ Same H H') ⟨.nil upd_same, zD⟩ (fun i H' _ ⟨_, s⟩ => SqT.of (s _ _ hst)) (fun i y H1 hy ⟨hD, s1⟩ => ?_) (fun H1 ⟨hD, s1⟩ => ?_)
      · obtain ⟨s, hs, rfl⟩ := ints_at hy
        have s4 := stN_4 wr s (List.mem_of_getElem? hs)
        have sS : s ∈ S4 := by
          rw [s4_mem]
          unfold St4 at s4
          omega
        obtain ⟨c1, c2, c3⟩ := clo_fact d kd.2.2 s sS
        walk_at "go"
        refine ⟨rfl, ?_⟩
        try unfold tYes
        refine iteT ?_
        walk_at "go"
        refine new (show 1 ≤ sizeLine by decide) fun t H2 nt ht s2 => ?_
        walk_at "go"
        refine mth (s2 _ _ (s1 _ _ hk1)) rfl ?_
        walk_at "go"
        refine ⟨k, r, wr, d, s, rfl, (hk.sm s1).sm s2, kd.2.2, s4, fun t3 H3 n3 h3 s3 => ?_⟩
        walk_at "go"
        refine ⟨t3, _, rfl, .inr (SqT.of h3), fun l4 n4 => ?_⟩
        have z4 : Same H3 (upd H3 l4 (.lst (dvF d s))) := fun b u z => by
          rw [upd_ne (ne_of_none z n4)]
          exact z
        have h4 : upd H3 l4 (.lst (dvF d s)) l4 = some (.lst ((dvI d s).map V.int)) := by rw [upd_same, dvI_V]
        show rCat (.ref t) (.ref l4) (upd H3 l4 (.lst (dvF d s))) _
        generalize upd H3 l4 (.lst (dvF d s)) = H4 at z4 h4
        refine w_cat (ys := ([s] ++ dvI d s).map V.int) (z4 _ _ (s3 _ _ ht)) h4 (by rw [List.map_append]; rfl) (by rw [List.length_map]; exact Nat.le_trans c3 (by decide)) fun p5 H5 n5 h5 s5 => ?_
        walk_at "go"
        refine ⟨p5, _, rfl, SqL.of h5, by omega, fun ns p6 pm pw n6 => ?_⟩
        have ens : ns = clo d s := sorted_pick pm pw c1 fun k => by
          rw [List.mem_append, List.mem_singleton, Bool.or_eq_true, decide_eq_true_eq, List.contains_iff_mem]
          constructor
          · exact fun z => ⟨c2 k (by rcases z with z | z <;> simp [z]), z⟩
          · exact fun z => z.2
        subst ens
        walk_at "go"
        refine ⟨p6, _, rfl, .inl ⟨SqL.of upd_same, fun l7 n7 => ?_⟩⟩
        have z6 : Same H5 (upd H5 p6 (.lst ((clo d s).map V.int))) := fun b u z => by
          rw [upd_ne (ne_of_none z n6)]
          exact z
        have z7 : Same _ (upd (upd H5 p6 (.lst ((clo d s).map V.int))) l7 (.tup ((clo d s).map V.int))) := fun b u z => by
          rw [upd_ne (ne_of_none z n7)]
          exact z
        have sA : Same H1 _ := s2.trans (s3.trans (z4.trans (s5.trans (z6.trans z7))))
        obtain ⟨acc, h1, h2, h3'⟩ := (hD.same sA).snoc (row := clo d s) upd_same
        have lt := stN_len wr
        rw [List.length_map, List.length_take] at h2
        refine ⟨acc, h1, big_of (by omega), by rw [map_snoc _ hs]; exact h3', fun b u z => ?_⟩
        rw [upd_ne (ne_of_none z nD)]
        exact sA _ _ (s1 _ _ z)
      · rw [List.length_map, List.take_length] at hD
        walk_at "go"
        exact done D (clo d) H1 (by unfold betw; simp) hD nD s1
end
end Law

set_option Elab.async false
set_option linter.all false
set_option maxRecDepth 100000
set_option maxHeartbeats 4000000
namespace Law
open PySem PySem.Spec PySem.Calls PyProof.Rows L2 KG LamX
local macro_rules | `(tactic| walk_at "1") => `(tactic| first
  | (with_reducible refine w_var rfl ?_) | (with_reducible refine w_c ?_) | (with_reducible refine w_seq ?_) | (with_reducible refine w_asg ?_) | (with_reducible refine w_gname ?_) | (with_reducible refine w_op ?_) | (with_reducible refine w_un ?_)
  | (with_reducible refine w_add ?_) | (with_reducible refine w_sub ?_) | ((with_reducible refine' w_mod ?mo ?_); (case mo => first | assumption | decide | omega)) | (with_reducible refine w_and ?_) | (with_reducible refine w_or ?_) | (with_reducible refine w_xor ?_)
  | (with_reducible refine w_gt ?_) | (with_reducible refine w_lt ?_) | (with_reducible refine w_ge ?_) | (with_reducible refine w_le ?_) | ((with_reducible refine' w_eq ?sc ?_); (case sc => rfl)) | ((with_reducible refine' w_ne ?sc ?_); (case sc => rfl))
  | (with_reducible refine w_ret ?_) | (with_reducible refine w_next ?_) | (with_reducible refine w_ifs ?_) | (with_reducible refine w_ifx ?_) | (with_reducible refine w_test ?_) | (with_reducible refine w_tB ?_) | (with_reducible refine w_bl ?_)
  | ((with_reducible refine' w_ixL ?ixh ?ixa ?_); (case ixh => first | exact SqL.of (by assumption)); (case ixa => first | rfl | skip)) | ((with_reducible refine' w_ixT ?ixh ?ixa ?_); (case ixh => first | exact SqT.of (by assumption)); (case ixa => first | rfl | skip))
  | ((with_reducible refine' w_fld ?_)) | ((with_reducible refine' fld ?fh ?fc ?fn ?fl ?_); (case fh => assumption); (case fc => assumption); (case fn => assumption); (case fl => rfl)) | (with_reducible refine w_sfld ?_)
  | (with_reducible refine Or.inl ⟨_, rfl, ?_⟩) | (with_reducible refine w_gsub ?_) | (with_reducible refine w_andV ?_) | (with_reducible refine w_orV ?_)
  | (with_reducible refine w_nil ?_) | (with_reducible refine w_cons ?_) | (with_reducible refine w_tup ?_) | (with_reducible refine w_lst ?_) | (with_reducible refine w_and2 ?_) | (with_reducible refine w_or2 ?_) | (with_reducible refine w_not ?_) | (with_reducible refine w_cb ?_) | (with_reducible refine w_call ?_) | (with_reducible refine w_par ?_) | (with_reducible refine w_pnil ?_) | (with_reducible refine w_pcons ?_) | (with_reducible refine w_dput ?_) | (with_reducible refine w_dget ?_) | (with_reducible refine w_for ?_) | (with_reducible refine w_itup ?_) | (with_reducible refine w_ilist ?_) | (with_reducible refine w_irng ?_) | (with_reducible refine w_meth ?_) | (with_reducible refine w_make ?_) | (with_reducible refine w_makeK ?_) | (with_reducible refine w_methK ?_) | ((with_reducible refine' mth ?mh ?ml ?_); (case mh => assumption); (case ml => rfl)) | (with_reducible refine w_drop ?_))
local macro_rules | `(tactic| walk_at "go") => `(tactic| ((repeat (walk_at "1")); try dsimp only))
local macro_rules | `(tactic| walk_at "1") => `(tactic| first
  | (with_reducible refine w_notV ?_) | (with_reducible refine w_callK ?_) | (with_reducible refine w_lc ?_) | (with_reducible refine w_chain ?_) | (with_reducible refine w_neg ?_) | ((with_reducible refine' w_shr ?mo ?_); (case mo => first | assumption | omega)))
abbrev ef (k t : Addr) : List (Str × V) := [("kind", .ref k), ("ends", .ref t)]
def EffAt (C CE : Addr) (H : Hp) (e k : Addr) (r w d : Str) (F : List (List Int)) : Prop := ∃ dx t, H e = some (.ins CE dx (ef k t)) ∧ KindAt C H k r w d ∧ RowsAt H t F
theorem EffAt.sm {C CE e k : Addr} {H H' : Hp} {r w d : Str} {F : List (List Int)} (h : EffAt C CE H e k r w d F) (s : Same H H') : EffAt C CE H' e k r w d F := by
  obtain ⟨dx, t, h1, h2, h3⟩ := h
  exact ⟨dx, t, s _ _ h1, h2.sm s, h3.same s⟩
def one (c : Nat) : Str := ⟨#[c]⟩
def stepR (q : Bool) (r w d : Str) (F : List (List Int)) (c : Nat) : List (List Int) := joinR (joinR F (letR r w (one c))) (betw q w d)
def ofR (q : Bool) (r w d : Str) (l : List Nat) : List (List Int) := l.foldl (stepR q r w d) (betw q w d)
def rwB (n : Nat) (F : List (List Int)) : Bool := (F.length == n) && F.all fun e => (e.all fun k => decide (0 ≤ k ∧ k < n)) && decide (e.length ≤ 4)
theorem rw_of {n : Nat} {F : List (List Int)} (h : rwB n F = true) : Rw n F := by
  unfold rwB at h
  rw [Bool.and_eq_true] at h
  have h2 := List.all_eq_true.mp h.2
  refine ⟨by simpa using h.1, fun e he k hk => ?_, fun e he => ?_⟩
  · have := h2 e he
    rw [Bool.and_eq_true] at this
    exact of_decide_eq_true (List.all_eq_true.mp this.1 k hk)
  · have := h2 e he
    rw [Bool.and_eq_true] at this
    exact of_decide_eq_true this.2
theorem betw_rw0 : ∀ w ∈ WR, ∀ d ∈ DV, rwB (stN w).length (betw true w d) = true ∧ rwB (stN w).length (betw false w d) = true := by decide +kernel
theorem betw_rw {q : Bool} {w d : Str} (hw : w ∈ WR) (hd : d ∈ DV) : Rw (stN w).length (betw q w d) := rw_of (by
  cases q
  · exact (betw_rw0 w hw d hd).2
  · exact (betw_rw0 w hw d hd).1)
theorem letR_rw0 : ∀ r ∈ RD, ∀ w ∈ WR, rwB (stN w).length (letR r w "0") = true ∧ rwB (stN w).length (letR r w "1") = true ∧ rwB (stN w).length (letR r w "r") = true := by decide +kernel
theorem letR_rw {r w c : Str} (hr : r ∈ RD) (hw : w ∈ WR) (hc : c = "0" ∨ c = "1" ∨ c = "r") : Rw (stN w).length (letR r w c) := rw_of (by
  obtain ⟨a, b, e⟩ := letR_rw0 r hr w hw
  rcases hc with rfl | rfl | rfl
  · exact a
  · exact b
  · exact e)
theorem sign_of {c : Nat} (h : c ∈ ("01r" : Str).cps.toList) : one c = "0" ∨ one c = "1" ∨ one c = "r" := by
  have e : ("01r" : Str).cps.toList = [48, 49, 114] := by decide +kernel
  rw [e] at h
  simp only [List.mem_cons, List.not_mem_nil, or_false] at h
  rcases h with rfl | rfl | rfl
  · exact .inl (by decide +kernel)
  · exact .inr (.inl (by decide +kernel))
  · exact .inr (.inr (by decide +kernel))
def Lets (x : Str) : Prop := x.cps.size ≤ 40 ∧ ∀ c ∈ x.cps.toList, c ∈ ("01r" : Str).cps.toList
theorem ofR_rw {q : Bool} {r w d : Str} (kd : Kd r w d) : ∀ l : List Nat, (∀ c ∈ l, c ∈ ("01r" : Str).cps.toList) → ∀ F, Rw (stN w).length F → Rw (stN w).length (l.foldl (stepR q r w d) F)
  | [], _, F, h => h
  | c :: l, hl, F, h => ofR_rw kd l (fun x hx => hl x (List.mem_cons_of_mem _ hx)) _ ((h.joinR (letR_rw kd.1 kd.2.1 (sign_of (hl c List.mem_cons_self)))).joinR (betw_rw kd.2.1 kd.2.2))
theorem ofR_snoc (q : Bool) (r w d : Str) (l : List Nat) (c : Nat) : ofR q r w d (l ++ [c]) = stepR q r w d (ofR q r w d l) c := by
  unfold ofR
  rw [List.foldl_append]
  rfl
def spEI (CE : Addr) : Sp := fun vs H Q _ => ∃ (x dx k t : Addr), vs = [.ref x, .ref k, .ref t] ∧ H x = some (.ins CE dx []) ∧ ∀ H', H' x = some (.ins CE dx (ef k t)) → (∀ b, b ≠ x → H' b = H b) → Q .non H'
def spOf (C CE : Addr) : Sp := fun vs H Q _ => ∃ (k : Addr) (x r w d : Str) (q : Bool), vs = [.ref CE, .ref k, .str x, .bl q] ∧ Lets x ∧ KindAt C H k r w d ∧ Kd r w d ∧ ∀ e H', H e = none → EffAt C CE H' e k r w d (ofR q r w d x.cps.toList) → Same H H' → Q (.ref e) H'
def spECall (C CE : Addr) : Sp := fun vs H Q _ => ∃ (e k : Addr) (r w d : Str) (F : List (List Int)) (s : Nat) (row : List Int), vs = [.ref e, .int s] ∧ EffAt C CE H e k r w d F ∧ F[s]? = some row ∧ ∀ a, H a = some (.tup (row.map V.int)) → Q (.ref a) H
def rowsD (F : List (List Int)) : PyData := .tuple (F.map fun r => .tuple (r.map PyData.int))
def spEE (C CE : Addr) : Sp := fun vs H Q _ => ∃ (e e' k k' : Addr) (r w d r' w' d' : Str) (F F' : List (List Int)), vs = [.ref e, .ref e'] ∧ EffAt C CE H e k r w d F ∧ EffAt C CE H e' k' r' w' d' F' ∧ Q (.bl ((decide (r = r') && decide (w = w') && decide (d = d')) && PyData.eqv (rowsD F) (rowsD F'))) H
structure ET (K : PySem.W.Frag) (mg : Str → Option Value) (CE : Addr) : Prop where
  g_Effect : mg "Effect" = some (.ref CE)
  cl : Cls K CE
  nK : NoAttr K CE "kind"
  nE : NoAttr K CE "ends"
  isC : PySem.W.findIn K (.ref CE) "__class__" = some (some (.builtin "object.__class__"))
  isM : PySem.W.mroIn K CE (.type "object") = some true
theorem sh_rows (F : List (List Int)) : SeqAt.shaped (rowsD F) = true := by
  have h1 : ∀ ns : List Int, PyData.canLayAll0 (ns.map PyData.int) = true := fun ns => by
    induction ns with
    | nil => simp [PyData.canLayAll0]
    | cons a as ih => simp only [List.map_cons, PyData.canLayAll0, PyData.canLay0, ih, Bool.and_self]
  have h2 : ∀ ns : List Int, PyData.depthAll (ns.map PyData.int) = 0 := fun ns => by
    induction ns with
    | nil => simp [PyData.depthAll]
    | cons a as ih => simp only [List.map_cons, PyData.depthAll, PyData.depth, ih, Nat.max_self]
  have g1 : ∀ F : List (List Int), PyData.canLayAll0 (F.map fun r => .tuple (r.map PyData.int)) = true := fun F => by
    induction F with
    | nil => simp [PyData.canLayAll0]
    | cons a as ih => simp only [List.map_cons, PyData.canLayAll0, PyData.canLay0, h1, ih, Bool.and_self]
  have g2 : ∀ F : List (List Int), PyData.depthAll (F.map fun r => .tuple (r.map PyData.int)) ≤ 1 := fun F => by
    induction F with
    | nil => simp [PyData.depthAll]
    | cons a as ih =>
      simp only [List.map_cons, PyData.depthAll, PyData.depth, h2]
      omega
  unfold SeqAt.shaped rowsD
  rw [Bool.and_eq_true]
  refine ⟨by simp only [PyData.canLay0, g1], decide_eq_true ?_⟩
  have := g2 F
  simp only [PyData.depth]
  omega
theorem dp_intsT {K : PySem.W.Frag} {H : Hp} : ∀ ns : List Int, DpAll K H (ns.map V.int) (ns.map PyData.int)
  | [] => .nil
  | n :: ns => .cons (.int n) (dp_intsT ns)
theorem dp_rows {K : PySem.W.Frag} {H : Hp} {t : Addr} {F : List (List Int)} (h : RowsAt H t F) : Dp K H (.ref t) (rowsD F) := by
  obtain ⟨ts, h1, h2, h3⟩ := h
  refine .tup (SqT.of h1) ?_
  have : ∀ (ts : List Addr) (F : List (List Int)), ts.length = F.length → (∀ (j : Nat) (a : Addr) (r : List Int), ts[j]? = some a → F[j]? = some r → H a = some (.tup (r.map V.int))) → DpAll K H (ts.map V.ref) (F.map fun r => .tuple (r.map PyData.int)) := by
    intro ts
    induction ts with
    | nil =>
      intro F hl _
      cases F with
      | nil => exact .nil
      | cons _ _ => cases hl
    | cons a ts ih =>
      intro F hl h
      cases F with
      | nil => cases hl
      | cons r F =>
        exact .cons (.tup (SqT.of (h 0 a r rfl rfl)) (dp_intsT r)) (ih F (Nat.succ.inj hl) fun j b s e1 e2 => h (j + 1) b s e1 e2)
  exact this ts F h2 h3
section
variable {P : Program} {w : World} {K : PySem.W.Frag} {mg : Str → Option Value} {base : Heap} {C CE aW aI : Addr} {mc : Value}
theorem ok_eol (D : DefAt K mg "ends_of_letter" s_ends_of_letter ["kind", "letter"]) (B : B1 mg) (T : KT K w mg C aW aI mc) {f2 f4 : Addr} (mAR : Met P w K mg base 1 C "after_read" f2 (spAR C)) (mAW : Met P w K mg base 2 C "after_write" f4 (spAW C)) : Cal P w K mg base 3 "ends_of_letter" (spEOL C) := by
  refine D.cal (k := 2) sc_ends_of_letter (fun vs H Q E h => ?_) (fun f cdv A outer s H vs Q E rm gd h => ?_)
  · obtain ⟨k, c, r, wr, d, rfl, _⟩ := h
    rfl
  · obtain ⟨k, c, r, wr, d, rfl, hc, hk, kd, q⟩ := h
    obtain ⟨dx, st, hk1, hst⟩ := hk.st
    have cl := T.cl
    have nS := T.nS
    refine ⟨_, (pss_cons (ps_if (pt_cmpR op_eq (pv 1) pe_str (nomark _))
      (pss_one (ps_ret (pe_callTy call_tuple_of (by rfl) B.g_tuple (by decide +kernel) (pa_cons (pe_lc (own := [("state", 2)]) (g := (gName 2)) (by rfl) sc_ends_of_letter.nd (pi_tup (pe_fld (pv 0) rfl)) (blkOk_by (own := [("state", 2)]) (N := ["kind", "letter", "state"]) (sc := defScope s_ends_of_letter) (by decide +kernel)) (fun _ _ _ _ _ => (pg_name (i := 2) sc_ends_of_letter.nd rfl (Or.inl rfl))) (fun _ _ _ _ _ => pts_nil) (fun _ _ _ _ _ => (show PE _ _ (tTup (tCons (tMeth C "after_read" (spAR C) [] E0 (tVar 0) (tCons (tVar 2) tNil)) tNil)) from pe_tup (pa_cons (pm mAR T.cl rm (by decide) gd (pv 0) (pa_cons (pv 2) pa_nil)) pa_nil)))) pa_nil))))
      pss_nil)
    (pss_one (ps_ret (pe_callTy call_tuple_of (by rfl) B.g_tuple (by decide +kernel) (pa_cons (pe_lc (own := [("state", 2)]) (g := (gName 2)) (by rfl) sc_ends_of_letter.nd (pi_tup (pe_fld (pv 0) rfl)) (blkOk_by (own := [("state", 2)]) (N := ["kind", "letter", "state"]) (sc := defScope s_ends_of_letter) (by decide +kernel)) (fun _ _ _ _ _ => (pg_name (i := 2) sc_ends_of_letter.nd rfl (Or.inl rfl))) (fun _ _ _ _ _ => pts_nil) (fun _ _ _ _ _ => (show PE _ _ (tTup (tCons (tMeth C "after_write" (spAW C) [] E0 (tVar 0) (tCons (tVar 2) (tCons (tCB rIntS (tCons (tVar 1) tNil)) tNil))) tNil)) from pe_tup (pa_cons (pm mAW T.cl rm (by decide) gd (pv 0) (pa_cons (pv 2) (pa_cons (pe_callTy (T := "int") (r := rIntS) cr_intS (by rfl) B.g_int (by decide +kernel) (pa_cons (pv 1) pa_nil)) pa_nil))) pa_nil)))) pa_nil))))), ?_⟩
    have done : ∀ (D : Addr) (f : Int → List Int) (H1 : Hp), letR r wr c = (stN wr).map f → RowsL H1 D ((stN wr).map f) → H D = none → Same H H1 → rTupOf K [.ref D] H1 Q := fun D f H1 e hD nD s1 => by
      obtain ⟨xs, hx⟩ := hD.at_
      refine ⟨D, xs, rfl, .inl ⟨SqL.of hx, fun l nl => ?_⟩⟩
      obtain ⟨xs', hx', _, h3⟩ := hD.tup nl
      rw [hx] at hx'
      cases hx'
      exact q l _ (back s1 nl) (e ▸ h3) (s1.trans fun b u z => by
        rw [upd_ne (ne_of_none z nl)]
        exact z)
    have turn : ∀ {D : Addr} {f : Int → List Int} {i : Nat} {s v : Int} {H1 : Hp}, H D = none → RowsL H1 D (((stN wr).take i).map f) → Same H H1 → (stN wr)[i]? = some s → f s = [v] →
        New HO.tup (fun y H4 => ∃ acc, H4 D = some (.lst acc) ∧ acc.length < sizeLine ∧ (RowsL (upd H4 D (.lst (acc ++ [y]))) D (((stN wr).take (i + 1)).map f) ∧ Same H (upd H4 D (.lst (acc ++ [y]))))) [.int v] H1 := fun {D f i s v H1} nD hD s1 hs e => by
      refine new (show 1 ≤ sizeLine by decide) fun t H2 nt ht s2 => ?_
      obtain ⟨acc, h1, h2, h3⟩ := (hD.same s2).snoc (row := [v]) ht
      have lt := stN_len wr
      rw [List.length_map, List.length_take] at h2
      refine ⟨acc, h1, big_of (by omega), by rw [map_snoc _ hs, e]; exact h3, fun b u z => ?_⟩
      rw [upd_ne (ne_of_none z nD)]
      exact s2 _ _ (s1 _ _ z)
    have wrt : ∀ (b : Int), (b = 0 ∨ b = 1) → PySem.intText? c = some b → c.length ≤ 640 → letR r wr c = (stN wr).map (fun s => [awF wr s b]) → True := fun _ _ _ _ _ => trivial
    rcases hc with rfl | rfl | rfl
    · walk_at "go"
      refine ite2 (fun h => absurd h (by decide)) fun _ => ?_
      walk_at "go"
      refine over_t (SqT.of hst) ?_
      intro D nD
      have zD : Same H (upd H D (.lst [])) := fun b u e => by
        rw [upd_ne (ne_of_none e nD)]
        exact e
      refine lc_tup (K := K) (a := st) (xs := (stN wr).map V.int) (fun i H' => RowsL H' D (((stN wr).take i).map fun s => [awF wr s 0]) ∧ Same H H') ⟨.nil upd_same, zD⟩ (fun i H' _ ⟨_, s⟩ => SqT.of (s _ _ hst)) (fun i y H1 hy ⟨hD, s1⟩ => ?_) (fun H1 ⟨hD, s1⟩ => ?_)
      · obtain ⟨s, hs, rfl⟩ := ints_at hy
        walk_at "go"
        refine ⟨rfl, ?_⟩
        try unfold tYes
        refine iteT ?_
        walk_at "go"
        refine mth (s1 _ _ hk1) rfl ?_
        walk_at "go"
        refine ⟨"0", 0, rfl, by decide +kernel, by decide, ?_⟩
        walk_at "go"
        refine ⟨k, r, wr, d, s, 0, rfl, hk.sm s1, kd.2.1, stN_4 wr s (List.mem_of_getElem? hs), .inl rfl, ?_⟩
        walk_at "go"
        exact turn nD hD s1 hs rfl
      · rw [List.length_map, List.take_length] at hD
        walk_at "go"
        exact done D _ H1 (by unfold letR; rfl) hD nD s1
    · walk_at "go"
      refine ite2 (fun h => absurd h (by decide)) fun _ => ?_
      walk_at "go"
      refine over_t (SqT.of hst) ?_
      intro D nD
      have zD : Same H (upd H D (.lst [])) := fun b u e => by
        rw [upd_ne (ne_of_none e nD)]
        exact e
      refine lc_tup (K := K) (a := st) (xs := (stN wr).map V.int) (fun i H' => RowsL H' D (((stN wr).take i).map fun s => [awF wr s 1]) ∧ Same H H') ⟨.nil upd_same, zD⟩ (fun i H' _ ⟨_, s⟩ => SqT.of (s _ _ hst)) (fun i y H1 hy ⟨hD, s1⟩ => ?_) (fun H1 ⟨hD, s1⟩ => ?_)
      · obtain ⟨s, hs, rfl⟩ := ints_at hy
        walk_at "go"
        refine ⟨rfl, ?_⟩
        try unfold tYes
        refine iteT ?_
        walk_at "go"
        refine mth (s1 _ _ hk1) rfl ?_
        walk_at "go"
        refine ⟨"1", 1, rfl, by decide +kernel, by decide, ?_⟩
        walk_at "go"
        refine ⟨k, r, wr, d, s, 1, rfl, hk.sm s1, kd.2.1, stN_4 wr s (List.mem_of_getElem? hs), .inr rfl, ?_⟩
        walk_at "go"
        exact turn nD hD s1 hs rfl
      · rw [List.length_map, List.take_length] at hD
        walk_at "go"
        exact done D _ H1 (by unfold letR; rfl) hD nD s1
    · walk_at "go"
      refine ite2 (fun _ => ?_) fun h => absurd (by decide) h
      walk_at "go"
      refine over_t (SqT.of hst) ?_
      intro D nD
      have zD : Same H (upd H D (.lst [])) := fun b u e => by
        rw [upd_ne (ne_of_none e nD)]
        exact e
      refine lc_tup (K := K) (a := st) (xs := (stN wr).map V.int) (fun i H' => RowsL H' D (((stN wr).take i).map fun s => [rdF r s]) ∧ Same H H') ⟨.nil upd_same, zD⟩ (fun i H' _ ⟨_, s⟩ => SqT.of (s _ _ hst)) (fun i y H1 hy ⟨hD, s1⟩ => ?_) (fun H1 ⟨hD, s1⟩ => ?_)
      · obtain ⟨s, hs, rfl⟩ := ints_at hy
        walk_at "go"
        refine ⟨rfl, ?_⟩
        try unfold tYes
        refine iteT ?_
        walk_at "go"
        refine mth (s1 _ _ hk1) rfl ?_
        walk_at "go"
        refine ⟨k, r, wr, d, s, rfl, hk.sm s1, ?_⟩
        walk_at "go"
        exact turn nD hD s1 hs rfl
      · rw [List.length_map, List.take_length] at hD
        walk_at "go"
        exact done D _ H1 (by unfold letR; rfl) hD nD s1
theorem ok_ei {f : Addr} (D : MetAt K CE "__init__" "Effect.__init__" s_Effect___init__ ["self", "kind", "ends"] f) (T : ET K mg CE) : ∃ fd, Meth K CE "__init__" f ∧ Fun K "__init__" "Effect.__init__" s_Effect___init__ f fd ∧ Binds K fd ["self", "kind", "ends"] [] ∧ Gd P w K mg base CX0 1 f fd ["self", "kind", "ends"] (spEI CE) := by
  refine D.gd sc_Effect___init__ (fun vs H Q E h => ?_) (fun cdv A outer s H vs Q E rm gd h => ?_)
  · obtain ⟨x, dx, k, t, rfl, _⟩ := h
    rfl
  · obtain ⟨x, dx, k, t, rfl, hx, q⟩ := h
    have cl := T.cl
    have nK := T.nK
    have nE := T.nE
    refine ⟨_, (pss_cons (ps_fld (pv 0) (pv 1) rfl)
    (pss_one (ps_fld (pv 0) (pv 2) rfl))), ?_⟩
    walk_at "go"
    refine sfld hx cl nK (by decide) rfl fun H1 h1 e1 => ?_
    walk_at "go"
    refine sfld h1 cl nE (show 1 < 1000 by decide) rfl fun H2 h2 e2 => ?_
    walk_at "go"
    exact q H2 h2 fun b nb => (e2 b nb).trans (e1 b nb)
theorem ok_of {fo fT : Addr} {fdo fdT : FuncData} {cdo : Value} {oc kV doc pm ct dV : Value} {an od : Option Addr} {osl : Array (Option Value)} (lk : K.lookup fo = some ⟨oc, od, .func (PySem.W.fnOf "of" "Effect.of" (defArgs s_Effect_of) (defBody s_Effect_of) (defScope s_Effect_of) dV kV doc pm an cdo ct), osl⟩) (code : PySem.W.codeIn K cdo "Effect.of" = true) (TE : ET K mg CE)
    (c_cl : Cal P w K mg base 1 "check_letters" spCL) (c_ewl : Cal P w K mg base 2 "ends_without_letters" (spEWL C)) (c_eol : Cal P w K mg base 3 "ends_of_letter" (spEOL C)) (c_jo : Cal P w K mg base 1 "joined" spJoin)
    (ME : Mk K CE fT) (FEI : Gd P w K mg base CX0 1 fT fdT ["self", "kind", "ends"] (spEI CE)) (bEI : Binds K fdT ["self", "kind", "ends"] []) :
    Gd P w K mg base CX0 4 fo (PySem.W.fnOf "of" "Effect.of" (defArgs s_Effect_of) (defBody s_Effect_of) (defScope s_Effect_of) dV kV doc pm an cdo ct) ["cls", "kind", "letters", "quiet"] (spOf C CE) := by
  refine gd_of (k := 3) lk code sc_Effect_of (fun vs H Q E h => ?_) (fun A outer s0 H vs Q E rm gd h => ?_)
  · obtain ⟨k, x, r, wr, d, qt, rfl, _⟩ := h
    rfl
  · obtain ⟨k, x, r, wr, d, qt, rfl, lx, hk, kd, q⟩ := h
    have ccheck_letters := c_cl
    have cends_without_letters := c_ewl
    have cends_of_letter := c_eol
    have cjoined := c_jo
    suffices h : ∃ t, PSs (cxOf CX0 P w K mg base ["cls", "kind", "letters", "quiet", "between", "ends", "letter"] "Effect.of" (defScope s_Effect_of) fo cdo A outer s0 H E).nox (defBody s_Effect_of) t ∧ t { nx := fun _ H' => Q .non H', rt := Q } (start ["cls", "kind", "letters", "quiet", "between", "ends", "letter"] [.ref CE, .ref k, .str x, .bl qt]) H by
      obtain ⟨t, h1, h2⟩ := h
      exact ⟨t, h1.nox, h2⟩
    refine ⟨_, (pss_cons (ps_expr (pc ccheck_letters rm (by decide) gd rfl (pa_cons (pv 2) pa_nil)))
    (pss_cons (ps_set (i := 4) sc_Effect_of.nd rfl (Or.inl rfl) (pc cends_without_letters rm (by decide) gd rfl (pa_cons (pv 1) (pa_cons (pv 3) pa_nil))))
    (pss_cons (ps_set (i := 5) sc_Effect_of.nd rfl (Or.inl rfl) (pv 4))
    (pss_cons (ps_for PassesOwn.never rfl (pi_str (pv 2)) (pg_name (i := 6) sc_Effect_of.nd rfl (Or.inl rfl))
      (pss_one (ps_set (i := 5) sc_Effect_of.nd rfl (Or.inl rfl) (pc cjoined rm (by decide) gd rfl (pa_cons (pc cjoined rm (by decide) gd rfl (pa_cons (pv 5) (pa_cons (pc cends_of_letter rm (by decide) gd rfl (pa_cons (pv 1) (pa_cons (pv 6) pa_nil))) pa_nil))) (pa_cons (pv 4) pa_nil))))))
    (pss_one (ps_ret (pe_gmakeV ME FEI (rm.mono (by decide)) gd (pv 0) bEI .nil pass0 (pa_cons (pv 1) (pa_cons (pv 5) pa_nil))))))))), ?_⟩
    walk_at "go"
    refine ⟨x, rfl, lx.1, lx.2, fun H1 s1 => ?_⟩
    walk_at "go"
    refine ⟨k, qt, r, wr, d, rfl, hk.sm s1, kd, fun t H2 nt ht s2 => ?_⟩
    walk_at "go"
    unfold iStr
    walk_at "go"
    refine ⟨x, rfl, ?_⟩
    have n4 := stN_len wr
    refine ⟨fun i m σ H' => m = x.cps.size - i ∧ i ≤ x.cps.size ∧ (∃ tE v6, σ = [some (.ref CE), some (.ref k), some (.str x), some (.bl qt), some (.ref t), some (.ref tE), v6] ∧ RowsAt H' tE (ofR qt r wr d (x.cps.toList.take i))) ∧ Same H2 H', ⟨_, rfl, Nat.zero_le _, ⟨t, none, rfl, by rw [List.take_zero]; exact ht⟩, fun _ _ z => z⟩, ?_⟩
    rintro i m σ H3 ⟨rfl, hi, ⟨tE, v6, rfl, hE⟩, s3⟩
    have rwi : Rw (stN wr).length (ofR qt r wr d (x.cps.toList.take i)) := ofR_rw kd _ (fun c hc => lx.2 c (List.mem_of_mem_take hc)) _ (betw_rw kd.2.1 kd.2.2)
    rcases Nat.lt_or_ge i x.cps.size with lt | ge
    · refine .inr ⟨lt, fun σ' H' => (∃ tE v6, σ' = [some (.ref CE), some (.ref k), some (.str x), some (.bl qt), some (.ref t), some (.ref tE), v6] ∧ RowsAt H' tE (ofR qt r wr d (x.cps.toList.take (i + 1)))) ∧ Same H2 H', fun σ' H' ⟨e, s⟩ => ⟨_, by omega, rfl, lt, e, s⟩, fun y H4 ⟨eH, c, ec, ey⟩ => ?_⟩
      subst ey
      subst eH
      have ecl : x.cps.toList[i]? = some c := by rw [Array.getElem?_toList]; exact ec
      have hcm := lx.2 c (List.mem_of_getElem? ecl)
      walk_at "go"
      refine ⟨k, one c, r, wr, d, rfl, sign_of hcm, ((hk.sm s1).sm s2).sm s3, kd, fun tL H5 nL hL s5 => ?_⟩
      walk_at "go"
      refine ⟨tE, tL, _, _, _, rfl, hE.same s5, hL, rwi, letR_rw kd.1 kd.2.1 (sign_of hcm), n4, fun t6 H6 n6 h6 s6 => ?_⟩
      walk_at "go"
      refine ⟨t6, t, _, _, _, rfl, h6, (ht.same s3).same (s5.trans s6), rwi.joinR (letR_rw kd.1 kd.2.1 (sign_of hcm)), betw_rw kd.2.1 kd.2.2, n4, fun t7 H7 n7 h7 s7 => ?_⟩
      walk_at "go"
      have e1 : x.cps.toList.take (i + 1) = x.cps.toList.take i ++ [c] := by
        rw [List.take_add_one, ecl]
        rfl
      refine ⟨⟨t7, _, rfl, ?_⟩, s3.trans (s5.trans (s6.trans s7))⟩
      rw [e1, ofR_snoc]
      exact h7
    · obtain rfl : i = x.cps.size := by omega
      refine .inl ⟨Nat.le_refl _, ?_⟩
      have ea : x.cps.toList.take x.cps.size = x.cps.toList := by rw [← Array.length_toList, List.take_length]
      rw [ea] at hE
      walk_at "go"
      refine ⟨rfl, ?_⟩
      walk_at "go"
      refine make fun y dx H9 ny hy sy => ?_
      refine ⟨y, dx, k, tE, rfl, hy, fun H10 h10 e10 => ⟨rfl, ?_⟩⟩
      have sA : Same H3 H10 := fun b u z => (e10 b (ne_of_none z ny)).trans (sy _ _ z)
      have sH : Same H H3 := s1.trans (s2.trans s3)
      exact q y H10 (back sH ny) ⟨dx, tE, h10, (hk.sm sH).sm sA, hE.same sA⟩ (sH.trans sA)
theorem ok_ecall {f : Addr} (D : MetAt K CE "__call__" "Effect.__call__" s_Effect___call__ ["self", "state"] f) (T : ET K mg CE) : ∃ fd, Meth K CE "__call__" f ∧ Fun K "__call__" "Effect.__call__" s_Effect___call__ f fd ∧ Binds K fd ["self", "state"] [] ∧ Gd P w K mg base CX0 1 f fd ["self", "state"] (spECall C CE) := by
  refine D.gd sc_Effect___call__ (fun vs H Q E h => ?_) (fun cdv A outer s H vs Q E rm gd h => ?_)
  · obtain ⟨e, k, r, wr, d, F, s, row, rfl, _⟩ := h
    rfl
  · obtain ⟨e, k, r, wr, d, F, s, row, rfl, ⟨dx, t, h1, h2, ts, g1, g2, g3⟩, hr, q⟩ := h
    have cl := T.cl
    have nK := T.nK
    have nE := T.nE
    refine ⟨_, (pss_one (ps_ret (pe_ix ix_tup (pe_fld (pv 0) rfl) (pv 1) (fun _ _ => rfl)))), ?_⟩
    walk_at "go"
    obtain ⟨a, ha⟩ : ∃ a, ts[s]? = some a := ⟨_, List.getElem?_eq_getElem (by rw [g2]; exact (List.getElem?_eq_some_iff.mp hr).1)⟩
    refine w_ixT (SqT.of g1) (v := .ref a) (atI_nat (by rw [List.getElem?_map, ha]; rfl)) ?_
    exact q a (g3 s a row ha hr)
theorem ok_ee {f fE : Addr} {fdE : FuncData} (D : MetAt K CE "__eq__" "Effect.__eq__" s_Effect___eq__ ["self", "other"] f) (TE : ET K mg CE) (B : B1 mg) (T : KT K w mg C aW aI mc)
    (FEQ : Gd P w K mg base CX0 1 fE fdE ["self", "other"] (spEQ C)) (bEQ : Binds K fdE ["self", "other"] []) (eqI : PySem.W.findIn K (.ref C) "__eq__" = some (some (.ref fE))) (eqF : PySem.W.isFn K (.ref fE) = true) (nfC : PySem.W.notFirst K C (.ref C) = true) :
    ∃ fd, Meth K CE "__eq__" f ∧ Fun K "__eq__" "Effect.__eq__" s_Effect___eq__ f fd ∧ Binds K fd ["self", "other"] [] ∧ Gd P w K mg base CX0 3 f fd ["self", "other"] (spEE C CE) := by
  refine D.gd (k := 2) sc_Effect___eq__ (fun vs H Q E h => ?_) (fun cdv A outer s H vs Q E rm gd h => ?_)
  · obtain ⟨e, e', k, k', r, wr, d, r', w', d', F, F', rfl, _⟩ := h
    rfl
  · obtain ⟨e, e', k, k', r, wr, d, r', w', d', F, F', rfl, ⟨dx, t, h1, h2, h3⟩, ⟨dx', t', h1', h2', h3'⟩, q⟩ := h
    have cl := TE.cl
    have nK := TE.nK
    have nE := TE.nE
    refine ⟨_, (pss_one (ps_ret (pe_and (pe_callB call_isi (by rfl) B.g_isinstance (by decide +kernel) (pa_cons (pv 1) (pa_cons (pe_glob (v := .ref CE) rfl TE.g_Effect rfl) pa_nil))) (pe_and (pe_cmpR (op_eqO FEQ (rm.mono (by decide)) gd eqI eqF bEQ pass0) (pe_fld (pv 0) rfl) (pe_fld (pv 1) rfl) (nomark _)) (pe_one (pe_cmpR (op_eqD rm.units) (pe_fld (pv 0) rfl) (pe_fld (pv 1) rfl) (nomark _))))))), ?_⟩
    walk_at "go"
    refine ⟨.ref e', .ref CE, .ref CE, .ref CE, true, rfl, .own CE, .base (.ins h1' cl TE.isC T.isG T.isT TE.isM), if_pos (beq_self_eq_true _), true, rfl, ?_⟩
    refine iteT ?_
    walk_at "go"
    obtain ⟨dk, sk, hk1, _⟩ := id h2
    refine ⟨k, dk, _, .ref C, rfl, hk1, ty_kind T h2', nfC, ?_⟩
    refine ⟨k, k', r, wr, d, r', w', d', rfl, h2, h2', ?_⟩
    refine ⟨_, rfl, _, rfl, ?_⟩
    cases hd : (decide (r = r') && decide (wr = w') && decide (d = d')) with
    | false =>
      rw [hd] at q
      exact iteF q
    | true =>
      rw [hd] at q
      refine iteT ?_
      walk_at "go"
      exact ⟨_, _, dp_rows h3, dp_rows h3', sh_rows F, sh_rows F', q⟩
end
end Law

set_option Elab.async false
set_option linter.all false
set_option maxRecDepth 100000
set_option maxHeartbeats 4000000
namespace Law
open PySem PySem.Spec PySem.Calls PyProof.Rows L2 KG LamX
local macro_rules | `(tactic| walk_at "1") => `(tactic| first
  | (with_reducible refine w_var rfl ?_) | (with_reducible refine w_c ?_) | (with_reducible refine w_seq ?_) | (with_reducible refine w_asg ?_) | (with_reducible refine w_gname ?_) | (with_reducible refine w_op ?_) | (with_reducible refine w_un ?_)
  | (with_reducible refine w_add ?_) | (with_reducible refine w_sub ?_) | ((with_reducible refine' w_mod ?mo ?_); (case mo => first | assumption | decide | omega)) | (with_reducible refine w_and ?_) | (with_reducible refine w_or ?_) | (with_reducible refine w_xor ?_)
  | (with_reducible refine w_gt ?_) | (with_reducible refine w_lt ?_) | (with_reducible refine w_ge ?_) | (with_reducible refine w_le ?_) | ((with_reducible refine' w_eq ?sc ?_); (case sc => rfl)) | ((with_reducible refine' w_ne ?sc ?_); (case sc => rfl))
  | (with_reducible refine w_ret ?_) | (with_reducible refine w_next ?_) | (with_reducible refine w_ifs ?_) | (with_reducible refine w_ifx ?_) | (with_reducible refine w_test ?_) | (with_reducible refine w_tB ?_) | (with_reducible refine w_bl ?_)
  | ((with_reducible refine' w_ixL ?ixh ?ixa ?_); (case ixh => first | exact SqL.of (by assumption)); (case ixa => first | rfl | skip)) | ((with_reducible refine' w_ixT ?ixh ?ixa ?_); (case ixh => first | exact SqT.of (by assumption)); (case ixa => first | rfl | skip))
  | ((with_reducible refine' w_fld ?_)) | ((with_reducible refine' fld ?fh ?fc ?fn ?fl ?_); (case fh => assumption); (case fc => assumption); (case fn => assumption); (case fl => rfl)) | (with_reducible refine w_sfld ?_)
  | (with_reducible refine Or.inl ⟨_, rfl, ?_⟩) | (with_reducible refine w_gsub ?_) | (with_reducible refine w_andV ?_) | (with_reducible refine w_orV ?_)
  | (with_reducible refine w_nil ?_) | (with_reducible refine w_cons ?_) | (with_reducible refine w_tup ?_) | (with_reducible refine w_lst ?_) | (with_reducible refine w_and2 ?_) | (with_reducible refine w_or2 ?_) | (with_reducible refine w_not ?_) | (with_reducible refine w_cb ?_) | (with_reducible refine w_call ?_) | (with_reducible refine w_par ?_) | (with_reducible refine w_pnil ?_) | (with_reducible refine w_pcons ?_) | (with_reducible refine w_dput ?_) | (with_reducible refine w_dget ?_) | (with_reducible refine w_for ?_) | (with_reducible refine w_itup ?_) | (with_reducible refine w_ilist ?_) | (with_reducible refine w_irng ?_) | (with_reducible refine w_meth ?_) | (with_reducible refine w_make ?_) | (with_reducible refine w_makeK ?_) | (with_reducible refine w_methK ?_) | ((with_reducible refine' mth ?mh ?ml ?_); (case mh => assumption); (case ml => rfl)) | (with_reducible refine w_drop ?_))
local macro_rules | `(tactic| walk_at "go") => `(tactic| ((repeat (walk_at "1")); try dsimp only))
local macro_rules | `(tactic| walk_at "1") => `(tactic| first
  | (with_reducible refine w_notV ?_) | (with_reducible refine w_callK ?_) | (with_reducible refine w_lc ?_) | (with_reducible refine w_chain ?_) | (with_reducible refine w_neg ?_) | ((with_reducible refine' w_shr ?mo ?_); (case mo => first | assumption | omega)))
/-- a loop over a tuple within a generator's body -/
theorem gfor_tup {K : PySem.W.Frag} {a : Addr} {xs : List V} {g : TG} {tb : TGn} {D : GEnds} {ys : List V} {σ : L2.St} {H : Hp} (Pv : Nat → List V → L2.St → Hp → Prop) (h0 : Pv 0 ys σ H) (sq : ∀ i ys σ H, Pv i ys σ H → SqT K H a xs)
    (each : ∀ i x ys σ H, xs[i]? = some x → Pv i ys σ H → g x σ H fun σ2 H2 => tb { D with nx := Pv (i + 1), ct := Pv (i + 1), bk := D.nx } ys σ2 H2) (end_ : ∀ ys σ H, Pv xs.length ys σ H → D.nx ys σ H) :
    ∃ W : Nat → Nat → List V → L2.St → Hp → Prop, (∃ m, W 0 m ys σ H) ∧ ∀ i m ys σ H, W i m ys σ H →
      ((Itt K a).stop i H ∧ D.nx ys σ H) ∨ ((Itt K a).go i H ∧ ∃ N : List V → L2.St → Hp → Prop, (∀ ys' σ' H', N ys' σ' H' → ∃ m', m' < m ∧ W (i + 1) m' ys' σ' H') ∧ ∀ x H', (Itt K a).yld i H x H' → g x σ H' fun σ2 H2 => tb { D with nx := N, ct := N, bk := D.nx } ys σ2 H2) := by
  refine ⟨fun i m ys σ H => m + i = xs.length ∧ Pv i ys σ H, ⟨xs.length, rfl, h0⟩, fun i m ys σ H w => ?_⟩
  obtain ⟨e, p⟩ := w
  have h := sq i ys σ H p
  cases m with
  | zero =>
    obtain rfl : i = xs.length := by omega
    exact .inl ⟨⟨xs, h, Nat.le_refl _⟩, end_ _ _ _ p⟩
  | succ m =>
    have lt : i < xs.length := by omega
    refine .inr ⟨⟨xs, xs[i], h, List.getElem?_eq_getElem lt⟩, Pv (i + 1), fun ys' σ' H' p' => ⟨m, Nat.lt_succ_self m, by omega, p'⟩, fun x H' ⟨eH, y⟩ => ?_⟩
    subst eH
    exact each i x ys σ _ (y xs h) p
def PrA (H : Hp) : List V → List (Int × Int) → Prop
  | [], [] => True
  | v :: vs, p :: ps => (∃ t, v = .ref t ∧ H t = some (.tup [.int p.1, .int p.2])) ∧ PrA H vs ps
  | _, _ => False
theorem PrA.same {H H' : Hp} (s : Same H H') : ∀ {vs : List V} {ps : List (Int × Int)}, PrA H vs ps → PrA H' vs ps
  | [], [], _ => trivial
  | _ :: _, _ :: _, h => let ⟨⟨t, e, h1⟩, h2⟩ := h; ⟨⟨t, e, s _ _ h1⟩, PrA.same s h2⟩
  | [], _ :: _, h => h.elim
  | _ :: _, [], h => h.elim
theorem PrA.snoc {H : Hp} {t : Addr} {p : Int × Int} (h1 : H t = some (.tup [.int p.1, .int p.2])) : ∀ {vs : List V} {ps : List (Int × Int)}, PrA H vs ps → PrA H (vs ++ [.ref t]) (ps ++ [p])
  | [], [], _ => ⟨⟨t, rfl, h1⟩, trivial⟩
  | _ :: _, _ :: _, h => ⟨h.1, PrA.snoc h1 h.2⟩
  | [], _ :: _, h => h.elim
  | _ :: _, [], h => h.elim
theorem PrA.length {H : Hp} : ∀ {vs : List V} {ps : List (Int × Int)}, PrA H vs ps → vs.length = ps.length
  | [], [], _ => rfl
  | _ :: _, _ :: _, h => congrArg (· + 1) (PrA.length h.2)
  | [], _ :: _, h => h.elim
  | _ :: _, [], h => h.elim

def prs (F : List (List Int)) (l : List Int) : List (Int × Int) := l.flatMap fun s => (F.getD s.toNat []).map fun e => (s, e)
def spPairs (C CE : Addr) : SpG := fun vs H Q _ => ∃ (e k : Addr) (r w d : Str) (F : List (List Int)), vs = [.ref e] ∧ EffAt C CE H e k r w d F ∧ Rw (stN w).length F ∧ ∀ (outs : List V) (H' : Hp), PrA H' outs (prs F (stN w)) → Same H H' → Q outs H'
theorem stN_at {w : Str} {i : Nat} {s : Int} (h : (stN w)[i]? = some s) : s = (i : Int) := by
  have : ∀ b : Bool, ∀ i : Nat, i < 4 → ∀ s : Int, (if b = true then ([0, 1, 2, 3] : List Int) else [0, 1])[i]? = some s → s = (i : Int) := by
    intro b i hi s h
    have h4 : i = 0 ∨ i = 1 ∨ i = 2 ∨ i = 3 := by omega
    cases b <;> rcases h4 with rfl | rfl | rfl | rfl <;> simp at h <;> omega
  have hi : i < 4 := Nat.lt_of_lt_of_le (List.getElem?_eq_some_iff.mp h).1 (stN_len w)
  unfold stN at h
  by_cases e : w = "once"
  · rw [if_pos e] at h
    exact this true i hi s h
  · rw [if_neg e] at h
    exact this false i hi s h
theorem prs_snoc (F : List (List Int)) (l : List Int) (s : Int) : prs F (l ++ [s]) = prs F l ++ (F.getD s.toNat []).map fun e => (s, e) := by
  unfold prs
  rw [List.flatMap_append]
  simp
theorem prs_len {F : List (List Int)} (h : ∀ e ∈ F, e.length ≤ 4) : ∀ l : List Int, (prs F l).length ≤ 4 * l.length
  | [] => Nat.le_refl _
  | s :: l => by
    have ih := prs_len h l
    have : (F.getD s.toNat []).length ≤ 4 := by
      rw [List.getD_eq_getElem?_getD]
      cases e : F[s.toNat]? with
      | none => exact Nat.zero_le _
      | some x => exact h x (List.mem_of_getElem? e)
    unfold prs at ih ⊢
    rw [List.flatMap_cons, List.length_append, List.length_map, List.length_cons]
    omega
end Law

set_option Elab.async false
set_option linter.all false
set_option maxRecDepth 100000
set_option maxHeartbeats 4000000
namespace Law
open PySem PySem.Spec PySem.Calls PyProof.Rows L2 KG LamX
local macro_rules | `(tactic| walk_at "1") => `(tactic| first
  | (with_reducible refine w_var rfl ?_) | (with_reducible refine w_c ?_) | (with_reducible refine w_seq ?_) | (with_reducible refine w_asg ?_) | (with_reducible refine w_gname ?_) | (with_reducible refine w_op ?_) | (with_reducible refine w_un ?_)
  | (with_reducible refine w_add ?_) | (with_reducible refine w_sub ?_) | ((with_reducible refine' w_mod ?mo ?_); (case mo => first | assumption | decide | omega)) | (with_reducible refine w_and ?_) | (with_reducible refine w_or ?_) | (with_reducible refine w_xor ?_)
  | (with_reducible refine w_gt ?_) | (with_reducible refine w_lt ?_) | (with_reducible refine w_ge ?_) | (with_reducible refine w_le ?_) | ((with_reducible refine' w_eq ?sc ?_); (case sc => rfl)) | ((with_reducible refine' w_ne ?sc ?_); (case sc => rfl))
  | (with_reducible refine w_ret ?_) | (with_reducible refine w_next ?_) | (with_reducible refine w_ifs ?_) | (with_reducible refine w_ifx ?_) | (with_reducible refine w_test ?_) | (with_reducible refine w_tB ?_) | (with_reducible refine w_bl ?_)
  | ((with_reducible refine' w_ixL ?ixh ?ixa ?_); (case ixh => first | exact SqL.of (by assumption)); (case ixa => first | rfl | skip)) | ((with_reducible refine' w_ixT ?ixh ?ixa ?_); (case ixh => first | exact SqT.of (by assumption)); (case ixa => first | rfl | skip))
  | ((with_reducible refine' w_fld ?_)) | ((with_reducible refine' fld ?fh ?fc ?fn ?fl ?_); (case fh => assumption); (case fc => assumption); (case fn => assumption); (case fl => rfl)) | (with_reducible refine w_sfld ?_)
  | (with_reducible refine Or.inl ⟨_, rfl, ?_⟩) | (with_reducible refine w_gsub ?_) | (with_reducible refine w_andV ?_) | (with_reducible refine w_orV ?_)
  | (with_reducible refine w_nil ?_) | (with_reducible refine w_cons ?_) | (with_reducible refine w_tup ?_) | (with_reducible refine w_lst ?_) | (with_reducible refine w_and2 ?_) | (with_reducible refine w_or2 ?_) | (with_reducible refine w_not ?_) | (with_reducible refine w_cb ?_) | (with_reducible refine w_call ?_) | (with_reducible refine w_par ?_) | (with_reducible refine w_pnil ?_) | (with_reducible refine w_pcons ?_) | (with_reducible refine w_dput ?_) | (with_reducible refine w_dget ?_) | (with_reducible refine w_for ?_) | (with_reducible refine w_itup ?_) | (with_reducible refine w_ilist ?_) | (with_reducible refine w_irng ?_) | (with_reducible refine w_meth ?_) | (with_reducible refine w_make ?_) | (with_reducible refine w_makeK ?_) | (with_reducible refine w_methK ?_) | ((with_reducible refine' mth ?mh ?ml ?_); (case mh => assumption); (case ml => rfl)) | (with_reducible refine w_drop ?_))
local macro_rules | `(tactic| walk_at "go") => `(tactic| ((repeat (walk_at "1")); try dsimp only))
local macro_rules | `(tactic| walk_at "1") => `(tactic| first
  | (with_reducible refine w_notV ?_) | (with_reducible refine w_callK ?_) | (with_reducible refine w_lc ?_) | (with_reducible refine w_chain ?_) | (with_reducible refine w_neg ?_) | ((with_reducible refine' w_shr ?mo ?_); (case mo => first | assumption | omega)))
/-- what is tracked stays, but at p -/
def Kp (p : Addr) (H H' : Hp) : Prop := ∀ b o, H b = some o → b ≠ p → H' b = some o
/-- the pen at p -/
def PenC (n : Nat) (p l : Addr) (cells : List Int) (H : Hp) : Prop := cells.length ≤ 63 ∧ H l = some (.lst (cells.map V.int)) ∧ ∃ (a : Nat) (r : Int), a ≤ n ∧ H p = some (.lst [.ref l, .int a, .int r])
def spDraw : Sp := fun vs H Q _ => ∃ (p l : Addr) (cells : List Int) (n : Nat) (m : Int), vs = [.ref p, .int m] ∧ PenC n p l cells H ∧ n ≤ 100000 ∧ 0 < m ∧ m < 1073741824 ∧
  ∀ (d : Int) (H' : Hp), 0 ≤ d → d < m → PenC (n + 1) p l cells H' → Kp p H H' → Q (.int d) H'
structure Bi (mg : Str → Option Value) : Prop where
  g_int : mg "int" = none
  g_len : mg "len" = none
  g_abs : mg "abs" = none
  g_list : mg "list" = none
  g_repr : mg "repr" = none
  g_range : mg "range" = none
  g_str : mg "str" = none
theorem dp_ints {K : PySem.W.Frag} {H : Hp} : ∀ ns : List Int, DpAll K H (ns.map V.int) (ns.map PyData.int)
  | [] => .nil
  | n :: ns => .cons (.int n) (dp_ints ns)
theorem sh_ints (ns : List Int) : SeqAt.shaped (.list (ns.map PyData.int)) = true := by
  have h1 : ∀ ns : List Int, PyData.canLayAll0 (ns.map PyData.int) = true := fun ns => by
    induction ns with
    | nil => simp [PyData.canLayAll0]
    | cons a as ih => simp only [List.map_cons, PyData.canLayAll0, PyData.canLay0, ih, Bool.and_self]
  have h2 : ∀ ns : List Int, PyData.depthAll (ns.map PyData.int) = 0 := fun ns => by
    induction ns with
    | nil => simp [PyData.depthAll]
    | cons a as ih => simp only [List.map_cons, PyData.depthAll, PyData.depth, ih, Nat.max_self]
  unfold SeqAt.shaped
  simp only [PyData.canLay0, PyData.depth, h1, h2]
  decide
theorem at_int {cells : List Int} {i : Int} (h0 : 0 ≤ i) (h1 : i < (cells.length : Int)) : ∃ c : Int, atI (cells.map V.int) i = some (.int c) := by
  have h : i.toNat < cells.length := by omega
  refine ⟨cells[i.toNat], at_of (j := i.toNat) (by omega) ?_⟩
  rw [List.getElem?_map, List.getElem?_eq_getElem h]
  rfl
section
variable {P : Program} {w : World} {K : PySem.W.Frag} {mg : Str → Option Value} {base : Heap}
theorem ok_draw (D : DefAt K mg "_law_draw" s__law_draw ["_law_pen_here", "_law_many"]) (B : Bi mg) : Cal P w K mg base 1 "_law_draw" spDraw := by
  refine D.cal sc__law_draw (fun vs H Q E h => ?_) (fun f cdv A outer s H vs Q E rm gd h => ?_)
  · obtain ⟨p, l, cells, n, m, rfl, _⟩ := h
    rfl
  · obtain ⟨p, l, cells, n, m, rfl, ⟨hc, hl, a, r, ha, hp⟩, hn, hm, hm2, k⟩ := h
    have hpl : p ≠ l := ne_of hp hl (by
      intro z
      cases cells with
      | nil => cases z
      | cons c cs => injection z with z; injection z with z; cases z)
    refine ⟨_, (pss_cons (ps_if (pt_cmpR op_gt (pe_ix ix_list (pv 0) pe_int (fun _ _ => rfl)) pe_int (nomark _))
      (pss_cons (ps_set (i := 2) sc__law_draw.nd rfl (Or.inl rfl) (pe_op op_mod (pe_callTy call_int1 (by rfl) B.g_int (by decide +kernel) (pa_cons (pe_ix ix_list (pv 0) pe_int (fun _ _ => rfl)) pa_nil)) (pv 1)))
      (pss_cons (ps_asg (pe_op op_fdiv (pe_callTy call_int1 (by rfl) B.g_int (by decide +kernel) (pa_cons (pe_ix ix_list (pv 0) pe_int (fun _ _ => rfl)) pa_nil)) (pv 1)) (pg_sub (pv 0) pe_int set_list))
      (pss_one (ps_ret (pv 2)))))
      pss_nil)
    (pss_cons (ps_set (i := 3) sc__law_draw.nd rfl (Or.inl rfl) (pe_ix ix_list (pv 0) pe_int (fun _ _ => rfl)))
    (pss_cons (ps_asg (pe_op op_add (pv 3) pe_int) (pg_sub (pv 0) pe_int set_list))
    (pss_cons (ps_set (i := 4) sc__law_draw.nd rfl (Or.inl rfl) (pe_op op_add (pe_op op_mul pe_int (pv 3)) pe_int))
    (pss_mid (ps_if (pt_cmpR (op_neD rm.units) (pe_ix ix_list (pv 0) pe_int (fun _ _ => rfl)) (pe_lst pa_nil) (nomark _))
      (pss_one (ps_set (i := 4) sc__law_draw.nd rfl (Or.inl rfl) (pe_ix ix_list (pe_ix ix_list (pv 0) pe_int (fun _ _ => rfl)) (pe_op op_mod (pe_callTy call_int1 (by rfl) B.g_int (by decide +kernel) (pa_cons (pv 3) pa_nil)) (pe_callB call_len_seq (by rfl) B.g_len (by decide +kernel) (pa_cons (pe_ix ix_list (pv 0) pe_int (fun _ _ => rfl)) pa_nil))) (fun _ _ => rfl))))
      pss_nil)
    (pss_mid (ps_if (PW.pt (pw_and (pt_cmpR op_lt (pv 3) (pe_callB call_len_seq (by rfl) B.g_len (by decide +kernel) (pa_cons (pe_ix ix_list (pv 0) pe_int (fun _ _ => rfl)) pa_nil)) (nomark _)) (pw_and1 (pt_cmpR op_ge (pe_callB call_abs (by rfl) B.g_abs (by decide +kernel) (pa_cons (pv 4) pa_nil)) (pe_op op_pow pe_int pe_int) (nomark _)))))
      (pss_cons (ps_set (i := 5) sc__law_draw.nd rfl (Or.inl rfl) (pe_op op_add (pe_op op_mul pe_int (pe_callB call_abs (by rfl) B.g_abs (by decide +kernel) (pa_cons (pv 4) pa_nil))) (pe_callTy call_int1 (by rfl) B.g_int (by decide +kernel) (pa_cons (pe_cmpR op_lt (pv 4) pe_int (nomark _)) pa_nil))))
      (pss_cons (ps_asg (pe_op op_fdiv (pv 5) (pv 1)) (pg_sub (pv 0) pe_int set_list))
      (pss_one (ps_ret (pe_op op_mod (pe_callTy call_int1 (by rfl) B.g_int (by decide +kernel) (pa_cons (pv 5) pa_nil)) (pv 1))))))
      pss_nil)
    (pss_cons (ps_set (i := 6) sc__law_draw.nd rfl (Or.inl rfl) (pe_op op_mod (pe_op op_pow (pe_callTy call_int1 (by rfl) B.g_int (by decide +kernel) (pa_cons (pe_op op_add (pe_op op_add (pe_op op_mod (pe_callTy call_int1 (by rfl) B.g_int (by decide +kernel) (pa_cons (pv 4) pa_nil)) pe_int) (pe_op op_mul pe_int (pv 3))) pe_int) pa_nil)) pe_int) pe_int))
    (pss_cons (ps_set (i := 6) sc__law_draw.nd rfl (Or.inl rfl) (pe_op op_mod (pe_op op_pow (pe_callTy call_int1 (by rfl) B.g_int (by decide +kernel) (pa_cons (pe_op op_add (pe_op op_add (pe_op op_mul (pv 6) (pe_op op_add (pv 3) pe_int)) (pe_op op_mul (pe_op op_mul pe_int (pv 3)) (pv 3))) pe_int) pa_nil)) pe_int) pe_int))
    (pss_one (ps_ret (pe_op op_mod (pe_callTy call_int1 (by rfl) B.g_int (by decide +kernel) (pa_cons (pe_op op_fdiv (pv 6) pe_int) pa_nil)) (pv 1)))))))))))), ?_⟩
    walk_at "go"
    refine ite2 (fun h0 => ?_) (fun h0 => ?_)
    · walk_at "go"
      refine w_fdiv ⟨hm, hm2⟩ ?_
      walk_at "go"
      refine w_setG hp rfl rfl fun H1 hp1 e1 => ?_
      walk_at "go"
      refine k _ _ (Int.emod_nonneg _ (by omega)) (Int.emod_lt_of_pos _ hm) ⟨hc, (e1 l hpl.symm).trans hl, a, r / m, by omega, hp1⟩ fun b o e nb => (e1 b nb).trans e
    · walk_at "go"
      refine w_setG hp rfl rfl fun H1 hp1 e1 => ?_
      have hl1 : H1 l = some (.lst (cells.map V.int)) := (e1 l hpl.symm).trans hl
      have hp1 : H1 p = some (.lst [.ref l, .int ((a + 1 : Nat) : Int), .int r]) := hp1
      walk_at "go"
      refine w_mul (.inl ⟨by omega, by omega⟩) ?_
      walk_at "go"
      refine ⟨fun σ' H' => Same H1 H' ∧ ∃ c : Int, σ' = [some (.ref p), some (.int m), none, some (.int a), some (.int c), none, none], ?_, ?_⟩
      · walk_at "go"
        refine new (by decide) fun z H2 nz hz s2 => ?_
        have hp2 := s2 _ _ hp1
        have hl2 := s2 _ _ hl1
        refine ⟨.list (cells.map .int), .list [], .lst (SqL.of hl2) (dp_ints cells), .lst (SqL.of hz) .nil, sh_ints cells, by decide +kernel, ?_⟩
        walk_at "go"
        refine ite2 (fun hne => ?_) (fun _ => ?_)
        · have pos : 0 < cells.length := by
            cases cells with
            | nil => exact absurd hne (by decide)
            | cons c cs => exact Nat.succ_pos _
          walk_at "go"
          refine ⟨l, cells.map .int, rfl, .inl (SqL.of hl2), ?_⟩
          rw [List.length_map]
          walk_at "go"
          have b0 : 0 ≤ (a : Int) % (cells.length : Int) := Int.emod_nonneg _ (by omega)
          have b1 : (a : Int) % (cells.length : Int) < (cells.length : Int) := Int.emod_lt_of_pos _ (by omega)
          obtain ⟨c, hc'⟩ := at_int (cells := cells) b0 b1
          refine w_ixL (SqL.of hl2) hc' ?_
          walk_at "go"
          exact ⟨s2, c, rfl⟩
        · walk_at "go"
          exact ⟨s2, _, rfl⟩
      · rintro σ' H2 ⟨s2, c, rfl⟩
        have hp2 := s2 _ _ hp1
        have hl2 := s2 _ _ hl1
        have fin : ∀ (d : Int) (rr : Int) (H' : Hp), 0 ≤ d → d < m → H' p = some (.lst [.ref l, .int ((a + 1 : Nat) : Int), .int rr]) → (∀ b, b ≠ p → H' b = H2 b) → Q (V.int d) H' := fun d rr H' d0 d1 hp' e' =>
          k d H' d0 d1 ⟨hc, (e' l hpl.symm).trans hl2, a + 1, rr, by omega, hp'⟩ fun b o e nb => (e' b nb).trans (s2 _ _ ((e1 b nb).trans e))
        have absok : ∀ c : Int, 0 ≤ (if c < 0 then -c else c) := fun c => by split <;> omega
        refine ⟨fun σ' H' => H' = H2 ∧ σ' = [some (.ref p), some (.int m), none, some (.int a), some (.int c), none, none], ?_, ?_⟩
        · have big : ∀ (b : Int) (D : Ends), (∀ (d : Int) (H' : Hp), D.rt (.int d) H' = Q (.int d) H') → True := fun _ _ _ => trivial
          walk_at "go"
          refine ⟨l, cells.map .int, rfl, .inl (SqL.of hl2), ?_⟩
          rw [List.length_map]
          walk_at "go"
          refine ite2 (fun h1 => ?_) (fun h1 => ?_)
          · walk_at "go"
            refine ⟨c, rfl, ?_⟩
            walk_at "go"
            refine w_pow ⟨by decide, by decide, by decide⟩ ?_
            walk_at "go"
            refine ite2 (fun h2 => ?_) (fun h2 => ?_)
            · walk_at "go"
              refine ⟨c, rfl, ?_⟩
              refine w_mul (.inl ⟨by decide, by decide⟩) ?_
              walk_at "go"
              refine .inr ⟨_, rfl, ?_⟩
              walk_at "go"
              refine w_fdiv ⟨hm, hm2⟩ ?_
              walk_at "go"
              refine w_setG hp2 rfl rfl fun H3 hp3 e3 => ?_
              walk_at "go"
              exact fin _ _ _ (Int.emod_nonneg _ (by omega)) (Int.emod_lt_of_pos _ hm) hp3 e3
            · walk_at "go"
              exact ⟨rfl, rfl⟩
          · walk_at "go"
            refine ite2 (fun h2 => absurd h2 (by decide)) (fun h2 => ?_)
            walk_at "go"
            exact ⟨rfl, rfl⟩
        · rintro σ' H' ⟨rfl, rfl⟩
          have an : 0 ≤ (a : Int) := Int.natCast_nonneg _
          have a2 : (a : Int) ≤ 100000 := by omega
          walk_at "go"
          refine w_mul (.inl ⟨by decide, by decide⟩) ?_
          walk_at "go"
          have q0 : 0 ≤ c % 2147483579 := Int.emod_nonneg _ (by decide)
          have q1 : c % 2147483579 < 2147483579 := Int.emod_lt_of_pos _ (by decide)
          refine w_pow ⟨by decide, by decide, by omega⟩ ?_
          walk_at "go"
          generalize hx : (c % 2147483579 + 57131 * (a : Int) + 211) ^ Int.toNat 5 % 2147483629 = x
          have x0 : 0 ≤ x := by rw [← hx]; exact Int.emod_nonneg _ (by decide)
          have x1 : x < 2147483629 := by rw [← hx]; exact Int.emod_lt_of_pos _ (by decide)
          refine w_mul (.inl ⟨by omega, by omega⟩) ?_
          walk_at "go"
          refine w_mul (.inl ⟨by decide, by decide⟩) ?_
          walk_at "go"
          refine w_mul (.inr ⟨by omega, by omega⟩) ?_
          walk_at "go"
          have y0 : 0 ≤ x * ((a : Int) + 64007) := Int.mul_nonneg x0 (by omega)
          have y1 : x * ((a : Int) + 64007) ≤ 2147483629 * 164007 := Int.mul_le_mul (by omega) (by omega) (by omega) (by decide)
          have z0 : 0 ≤ 91009 * (a : Int) * (a : Int) := Int.mul_nonneg (by omega) an
          have z1 : 91009 * (a : Int) * (a : Int) ≤ 91009 * 100000 * 100000 := Int.mul_le_mul (by omega) a2 an (by decide)
          refine w_pow ⟨by decide, by decide, by omega⟩ ?_
          walk_at "go"
          refine w_fdiv ⟨by decide, by decide⟩ ?_
          walk_at "go"
          exact fin _ r _ (Int.emod_nonneg _ (by omega)) (Int.emod_lt_of_pos _ hm) hp2 fun _ _ => rfl
theorem cut_ints (ns : List Int) (lo hi : Option Int) : ∃ ms : List Int, cutV (ns.map V.int) lo hi = ms.map V.int ∧ ms.length ≤ ns.length := by
  unfold cutV
  refine ⟨(ns.drop (HT.sIx (ns.map V.int).length 0 lo)).take (HT.sIx (ns.map V.int).length (ns.map V.int).length hi - HT.sIx (ns.map V.int).length 0 lo), ?_, ?_⟩
  · rw [List.map_take, List.map_drop]
  · rw [List.length_take, List.length_drop]
    omega
def spPen (K : PySem.W.Frag) : Sp := fun vs H Q _ => ∃ (a : Addr) (ns : List Int), vs = [.ref a] ∧ SqL K H a (ns.map V.int) ∧ ns.length ≤ 63 ∧
  ∀ (p l : Addr) (cells : List Int) (H' : Hp), H p = none → PenC 0 p l cells H' → Same H H' → Q (.ref p) H'
theorem ok_pen (D : DefAt K mg "_law_pen" s__law_pen ["_law_script"]) (B : Bi mg) : Cal P w K mg base 1 "_law_pen" (spPen K) := by
  refine D.cal sc__law_pen (fun vs H Q E h => ?_) (fun f cdv A outer s H vs Q E rm gd h => ?_)
  · obtain ⟨a, ns, rfl, _⟩ := h
    rfl
  · obtain ⟨a, ns, rfl, hs, hl, k⟩ := h
    obtain ⟨ms, em, lm⟩ := cut_ints ns none (some 63)
    refine ⟨_, (pss_one (ps_ret (pe_lst (pa_cons (pe_callTy call_list_of (by rfl) B.g_list (by decide +kernel) (pa_cons (pe_slice sl_list (pv 0) po_none (po_some pe_int)) pa_nil)) (pa_cons pe_int (pa_cons pe_int pa_nil)))))), ?_⟩
    walk_at "go"
    refine ⟨_, rfl, _, rfl, a, ns.map .int, rfl, hs, fun p1 n1 => ?_⟩
    rw [em]
    have s1 : Same H (upd H p1 (.lst (ms.map V.int))) := fun b u e => by rw [upd_ne (ne_of_none e n1)]; exact e
    walk_at "go"
    refine ⟨p1, ms.map .int, rfl, .inl (SqL.of upd_same), fun l nl => ?_⟩
    have s2 : Same (upd H p1 (.lst (ms.map V.int))) (upd (upd H p1 (.lst (ms.map V.int))) l (.lst (ms.map V.int))) := fun b u e => by rw [upd_ne (ne_of_none e nl)]; exact e
    walk_at "go"
    refine new (by show 3 ≤ sizeLine; decide) fun p H3 np h3 s3 => ?_
    exact k p l ms H3 (s1.free (s2.free np)) ⟨by omega, s3 _ _ upd_same, 0, 0, Nat.le_refl _, h3⟩ (s1.trans (s2.trans s3))
end
/-! ### the law's own helpers -/
def rdL (r : Str) (s : Int) : Int := if r = "take" then s - s % 2 else s
def wrL (w : Str) (s b : Int) : Int := if w = "once" then (if 1 < s then s else 2 + b) else (s - s % 2) + tabV w (s % 2) b
def dvL (d : Str) (s : Int) : List V := if d = "drift" ∨ (d = "raise" ∧ s % 2 = 0) ∨ (d = "end" ∧ s % 2 = 1) then [.int (s + 1 - 2 * (s % 2))] else []
def spRdL : Sp := fun vs H Q _ => ∃ (r : Str) (s : Int), vs = [.str r, .int s] ∧ Q (.int (rdL r s)) H
def spWrL : Sp := fun vs H Q _ => ∃ (w : Str) (s b : Int), vs = [.str w, .int s, .int b] ∧ w ∈ WR ∧ (b = 0 ∨ b = 1) ∧ ∀ H', Same H H' → Q (.int (wrL w s b)) H'
def spDvL : Sp := fun vs H Q _ => ∃ (d : Str) (s : Int), vs = [.str d, .int s] ∧ ∀ t H', H t = none → H' t = some (.tup (dvL d s)) → Same H H' → Q (.ref t) H'
def spWords : Sp := fun vs H Q _ => ∃ (p l : Addr) (cells : List Int) (n : Nat), vs = [.ref p] ∧ PenC n p l cells H ∧ n + 3 ≤ 100000 ∧
  ∀ (t : Addr) (r w d : Str) (H' : Hp), r ∈ RD → w ∈ WR → d ∈ DV → H t = none → H' t = some (.tup [.str r, .str w, .str d]) → PenC (n + 3) p l cells H' → Kp p H H' → Q (.ref t) H'
section
variable {P : Program} {w : World} {K : PySem.W.Frag} {mg : Str → Option Value} {base : Heap} {C aW aI : Addr} {mc : Value}
theorem dS (a b : Str) : decide (V.str a = V.str b) = decide (a = b) := by
  by_cases h : a = b
  · subst h
    rw [decide_eq_true rfl, decide_eq_true rfl]
  · rw [decide_eq_false h, decide_eq_false fun z => h (V.str.inj z)]
theorem dI (a b : Int) : decide (V.int a = V.int b) = decide (a = b) := by
  by_cases h : a = b
  · subst h
    rw [decide_eq_true rfl, decide_eq_true rfl]
  · rw [decide_eq_false h, decide_eq_false fun z => h (V.int.inj z)]
theorem ok_rdL (D : DefAt K mg "_law_read" s__law_read ["_law_reading", "_law_state"]) : Cal P w K mg base 1 "_law_read" spRdL := by
  refine D.cal sc__law_read (fun vs H Q E h => ?_) (fun f cdv A outer s H vs Q E rm gd h => ?_)
  · obtain ⟨r, s, rfl, _⟩ := h
    rfl
  · obtain ⟨r, s, rfl, q⟩ := h
    refine ⟨_, (pss_one (ps_ret (pe_ifExp (pt_cmpR op_eq (pv 0) pe_str (nomark _)) (pe_op op_sub (pv 1) (pe_op op_mod (pv 1) pe_int)) (pv 1)))), ?_⟩
    walk_at "go"
    rw [dS]
    unfold rdL at q
    by_cases e : r = "take"
    · rw [if_pos e] at q
      rw [decide_eq_true e]
      refine iteT ?_
      walk_at "go"
      exact q
    · rw [if_neg e] at q
      rw [decide_eq_false e]
      refine iteF ?_
      walk_at "go"
      exact q
theorem ok_dvL (D : DefAt K mg "_law_deeds" s__law_deeds ["_law_device", "_law_state"]) : Cal P w K mg base 1 "_law_deeds" spDvL := by
  refine D.cal sc__law_deeds (fun vs H Q E h => ?_) (fun f cdv A outer s H vs Q E rm gd h => ?_)
  · obtain ⟨d, s, rfl, _⟩ := h
    rfl
  · obtain ⟨d, s, rfl, q⟩ := h
    refine ⟨_, (pss_mid (ps_if (PW.pt (pw_or (pt_cmpR op_eq (pv 0) pe_str (nomark _)) (pw_or (PW.pt (pw_and (pt_cmpR op_eq (pv 0) pe_str (nomark _)) (pw_and1 (pt_cmpR op_eq (pe_op op_mod (pv 1) pe_int) pe_int (nomark _))))) (pw_or1 (PW.pt (pw_and (pt_cmpR op_eq (pv 0) pe_str (nomark _)) (pw_and1 (pt_cmpR op_eq (pe_op op_mod (pv 1) pe_int) pe_int (nomark _)))))))))
      (pss_one (ps_ret (pe_tup (pa_cons (pe_op op_sub (pe_op op_add (pv 1) pe_int) (pe_op op_mul pe_int (pe_op op_mod (pv 1) pe_int))) pa_nil))))
      pss_nil)
    (pss_one (ps_ret (pe_tup pa_nil)))), ?_⟩
    refine w_mid (fun σ' H' => H' = H ∧ σ' = [some (.str d), some (.int s)] ∧ ¬ (d = "drift" ∨ (d = "raise" ∧ s % 2 = 0) ∨ (d = "end" ∧ s % 2 = 1))) ?_ ?_
    · have yes : (d = "drift" ∨ (d = "raise" ∧ s % 2 = 0) ∨ (d = "end" ∧ s % 2 = 1)) → dvL d s = [.int (s + 1 - 2 * (s % 2))] := fun h => if_pos h
      walk_at "go"
      rw [dS]
      refine ite2 (fun h1 => ?_) (fun h1 => ?_)
      · refine iteT ?_
        walk_at "go"
        refine w_mul (.inl ⟨by decide, by decide⟩) ?_
        walk_at "go"
        refine new (by show 1 ≤ sizeLine; decide) fun t H1 n1 h9 s1 => ?_
        rw [yes (.inl (of_decide_eq_true h1))] at q
        exact q t H1 n1 h9 s1
      walk_at "go"
      rw [dS]
      have a1 : ¬ d = "drift" := fun z => h1 (decide_eq_true z)
      refine ite2 (fun h2 => ?_) (fun h2 => ?_)
      · have a2 : d = "raise" := of_decide_eq_true h2
        walk_at "go"
        rw [dI]
        refine ite2 (fun h3 => ?_) (fun h3 => ?_)
        · refine iteT ?_
          walk_at "go"
          refine w_mul (.inl ⟨by decide, by decide⟩) ?_
          walk_at "go"
          refine new (by show 1 ≤ sizeLine; decide) fun t H1 n1 h1 s1 => ?_
          rw [yes (.inr (.inl ⟨a2, of_decide_eq_true h3⟩))] at q
          exact q t H1 n1 h1 s1
        · walk_at "go"
          rw [dS]
          refine ite2 (fun h4 => absurd (a2.symm.trans (of_decide_eq_true h4)) (by decide)) (fun h4 => ?_)
          refine iteF ?_
          walk_at "go"
          exact ⟨rfl, rfl, fun z => z.elim a1 fun z => z.elim (fun z => h3 (decide_eq_true z.2)) fun z => h4 (decide_eq_true z.1)⟩
      · have a2 : ¬ d = "raise" := fun z => h2 (decide_eq_true z)
        refine iteF ?_
        walk_at "go"
        rw [dS]
        refine ite2 (fun h3 => ?_) (fun h3 => ?_)
        · have a3 : d = "end" := of_decide_eq_true h3
          walk_at "go"
          rw [dI]
          refine ite2 (fun h4 => ?_) (fun h4 => ?_)
          · walk_at "go"
            refine w_mul (.inl ⟨by decide, by decide⟩) ?_
            walk_at "go"
            refine new (by show 1 ≤ sizeLine; decide) fun t H1 n1 h1 s1 => ?_
            rw [yes (.inr (.inr ⟨a3, of_decide_eq_true h4⟩))] at q
            exact q t H1 n1 h1 s1
          · walk_at "go"
            exact ⟨rfl, rfl, fun z => z.elim a1 fun z => z.elim (fun z => a2 z.1) fun z => h4 (decide_eq_true z.2)⟩
        · refine iteF ?_
          walk_at "go"
          exact ⟨rfl, rfl, fun z => z.elim a1 fun z => z.elim (fun z => a2 z.1) fun z => h3 (decide_eq_true z.1)⟩
    · rintro σ' H' ⟨rfl, rfl, no⟩
      walk_at "go"
      refine new (by show 0 ≤ sizeLine; decide) fun t H1 n1 h1 s1 => ?_
      unfold dvL at q
      rw [if_neg no] at q
      exact q t H1 n1 h1 s1
theorem ok_wrL (D : DefAt K mg "_law_write" s__law_write ["_law_writing", "_law_state", "_law_bit"]) : Cal P w K mg base 1 "_law_write" spWrL := by
  refine D.cal sc__law_write (fun vs H Q E h => ?_) (fun f cdv A outer s H vs Q E rm gd h => ?_)
  · obtain ⟨wr, s, b, rfl, _⟩ := h
    rfl
  · obtain ⟨wr, s, b, rfl, hw, hb, q⟩ := h
    have hu := hu_of rm
    refine ⟨_, (pss_cons (ps_par (i := 3) (j := 4) rfl sc__law_write.nd rfl rfl (by decide) rfl rfl (pa_cons (pe_op op_mod (pv 1) pe_int) (pa_cons (pe_op op_sub (pv 1) (pe_op op_mod (pv 1) pe_int)) pa_nil)) (by rfl))
    (pss_cons (ps_if (pt_cmpR op_eq (pv 0) pe_str (nomark _))
      (pss_one (ps_ret (pe_ifExp (pt_cmpR op_gt (pv 1) pe_int (nomark _)) (pv 1) (pe_op op_add pe_int (pv 2)))))
      pss_nil)
    (pss_cons (ps_set (i := 5) sc__law_write.nd rfl (Or.inl rfl) (pe_disp (pps_cons pe_str (pe_tup (pa_cons pe_int (pa_cons pe_int pa_nil))) (pps_cons pe_str (pe_tup (pa_cons (pv 3) (pa_cons pe_int pa_nil))) (pps_cons pe_str (pe_tup (pa_cons pe_int (pa_cons (pv 3) pa_nil))) (pps_cons pe_str (pe_tup (pa_cons (pv 3) (pa_cons pe_int pa_nil))) (pps_cons pe_str (pe_tup (pa_cons (pv 3) (pa_cons (pv 3) pa_nil))) pps_nil))))) (by rfl) (by rfl) (fun z => by cases z) (by decide)))
    (pss_cons (ps_dput hu (pv 5) pe_str (pe_tup (pa_cons (pv 3) (pa_cons (pe_op op_sub pe_int (pv 3)) pa_nil))) rfl)
    (pss_one (ps_ret (pe_op op_add (pv 4) (pe_ix ix_tup (pe_dget hu (pv 5) (pv 0) (fun _ _ => rfl)) (pv 2) (fun _ _ => rfl))))))))), ?_⟩
    walk_at "go"
    refine ⟨_, _, rfl, ?_⟩
    walk_at "go"
    rw [dS]
    refine ite2 (fun h1 => ?_) (fun h1 => ?_)
    · have e : wr = "once" := of_decide_eq_true h1
      have q := q H (Same.refl _)
      unfold wrL at q
      rw [if_pos e] at q
      walk_at "go"
      refine ite2 (fun h2 => ?_) (fun h2 => ?_)
      · rw [if_pos (of_decide_eq_true h2)] at q
        walk_at "go"
        exact q
      · rw [if_neg (fun z => h2 (decide_eq_true z))] at q
        walk_at "go"
        exact q
    · have e : ¬ wr = "once" := fun z => h1 (decide_eq_true z)
      walk_at "go"
      refine w_disp fun p H1 n1 h1 s1 => ?_
      walk_at "go"
      refine new (by show 2 ≤ sizeLine; decide) fun t1 H2 n2 h2 s2 => ?_
      walk_at "go"
      refine new (by show 2 ≤ sizeLine; decide) fun t2 H3 n3 h3 s3 => ?_
      walk_at "go"
      refine new (by show 2 ≤ sizeLine; decide) fun t3 H4 n4 h4 s4 => ?_
      walk_at "go"
      refine new (by show 2 ≤ sizeLine; decide) fun t4 H5 n5 h5 s5 => ?_
      walk_at "go"
      refine new (by show 2 ≤ sizeLine; decide) fun t5 H6 n6 h6 s6 => ?_
      walk_at "go"
      have sB := s2.trans (s3.trans (s4.trans (s5.trans s6)))
      refine dall [(.inr "store", .ref t1), (.inr "clear1", .ref t2), (.inr "clear0", .ref t3), (.inr "set1", .ref t4), (.inr "none", .ref t5)] (sB _ _ h1) rfl (by show 5 ≤ 15; decide) rfl fun H7 h7 e7 => ?_
      walk_at "go"
      refine new (by show 2 ≤ sizeLine; decide) fun t6 H8 n8 h8 s8 => ?_
      walk_at "go"
      refine dput (.inr "flip1") (s8 _ _ h7) (by show 5 < sizeLine; decide) rfl fun H9 h9 e9 => ?_
      walk_at "go"
      have to7 : ∀ {t : Addr} {xs : List V}, H6 t = some (.tup xs) → H9 t = some (.tup xs) := fun {t xs} h => by
        have a1 : t ≠ p := ne_of h (sB _ _ h1) (by intro z; cases z)
        rw [e9 t a1]
        exact s8 _ _ ((e7 t a1).trans h)
      have g1 := to7 (s6 _ _ (s5 _ _ (s4 _ _ (s3 _ _ h2))))
      have g2 := to7 (s6 _ _ (s5 _ _ (s4 _ _ h3)))
      have g3 := to7 (s6 _ _ (s5 _ _ h4))
      have g4 := to7 (s6 _ _ h5)
      have g5 := to7 h6
      have g6 : H9 t6 = some (.tup [.int (s % 2), .int (1 - s % 2)]) := by
        have a1 : t6 ≠ p := ne_of h8 (s8 _ _ h7) (by intro z; cases z)
        exact (e9 t6 a1).trans h8
      have sC : Same H H9 := fun b o hb => by
        have a1 : b ≠ p := ne_of_none hb n1
        rw [e9 b a1]
        refine s8 _ _ ((e7 b a1).trans (sB _ _ (s1 _ _ hb)))
      have q := q H9 sC
      unfold wrL at q
      rw [if_neg e] at q
      have get : ∀ (t : Addr) (x y : Int) (σ : L2.St) (QQ : VK), H9 t = some (.tup [.int x, .int y]) → QQ (.int (if b = 0 then x else y)) H9 → rIxT K (.ref t) (.int b) H9 QQ := fun t x y σ QQ ht hq => by
        rcases hb with rfl | rfl
        · exact w_ixT (SqT.of ht) rfl hq
        · exact w_ixT (SqT.of ht) rfl hq
      have tv : ∀ v : Int, tabV wr v b = (if b = 0 then tabV wr v 0 else tabV wr v 1) := fun v => by
        rcases hb with rfl | rfl <;> rfl
      simp only [WR, List.mem_cons, List.not_mem_nil, or_false] at hw
      rcases hw with rfl | rfl | rfl | rfl | rfl | rfl | rfl
      · refine dget (.inr "store") h9 rfl ?_
        walk_at "go"
        refine get t1 _ _ [] _ g1 ?_
        walk_at "go"
        rw [tv] at q
        exact q
      · refine dget (.inr "clear1") h9 rfl ?_
        walk_at "go"
        refine get t2 _ _ [] _ g2 ?_
        walk_at "go"
        rw [tv] at q
        exact q
      · refine dget (.inr "clear0") h9 rfl ?_
        walk_at "go"
        refine get t3 _ _ [] _ g3 ?_
        walk_at "go"
        rw [tv] at q
        exact q
      · refine dget (.inr "set1") h9 rfl ?_
        walk_at "go"
        refine get t4 _ _ [] _ g4 ?_
        walk_at "go"
        rw [tv] at q
        exact q
      · refine dget (.inr "flip1") h9 rfl ?_
        walk_at "go"
        refine get t6 _ _ [] _ g6 ?_
        walk_at "go"
        rw [tv] at q
        exact q
      · exact absurd rfl e
      · refine dget (.inr "none") h9 rfl ?_
        walk_at "go"
        refine get t5 _ _ [] _ g5 ?_
        walk_at "go"
        rw [tv] at q
        exact q
theorem PenC.same {n : Nat} {p l : Addr} {cells : List Int} {H H' : Hp} (h : PenC n p l cells H) (s : Same H H') : PenC n p l cells H' := by
  obtain ⟨a, b, c, d, e, f⟩ := h
  exact ⟨a, s _ _ b, c, d, e, s _ _ f⟩
theorem at_strs {l : List Str} {i : Int} (h0 : 0 ≤ i) (h1 : i < (l.length : Int)) : ∃ x, x ∈ l ∧ atI (l.map V.str) i = some (.str x) := by
  have h : i.toNat < l.length := by omega
  refine ⟨l[i.toNat], List.getElem_mem h, at_of (j := i.toNat) (by omega) ?_⟩
  rw [List.getElem?_map, List.getElem?_eq_getElem h]
  rfl
theorem ok_words (D : DefAt K mg "_law_words" s__law_words ["_law_pen_here"]) (c_law_draw : Cal P w K mg base 1 "_law_draw" spDraw) : Cal P w K mg base 2 "_law_words" spWords := by
  refine D.cal sc__law_words (fun vs H Q E h => ?_) (fun f cdv A outer s H vs Q E rm gd h => ?_)
  · obtain ⟨p, l, cells, n, rfl, _⟩ := h
    rfl
  · obtain ⟨p, l, cells, n, rfl, pen, hn, q⟩ := h
    refine ⟨_, (pss_cons (ps_set (i := 1) sc__law_words.nd rfl (Or.inl rfl) (pe_tup (pa_cons pe_str (pa_cons pe_str (pa_cons pe_str (pa_cons pe_str (pa_cons pe_str (pa_cons pe_str (pa_cons pe_str pa_nil)))))))))
    (pss_cons (ps_set (i := 2) sc__law_words.nd rfl (Or.inl rfl) (pe_ix ix_tup (pe_tup (pa_cons pe_str (pa_cons pe_str pa_nil))) (pc c_law_draw rm (by decide) gd rfl (pa_cons (pv 0) (pa_cons pe_int pa_nil))) (fun _ _ => rfl)))
    (pss_one (ps_ret (pe_tup (pa_cons (pv 2) (pa_cons (pe_ix ix_tup (pv 1) (pc c_law_draw rm (by decide) gd rfl (pa_cons (pv 0) (pa_cons pe_int pa_nil))) (fun _ _ => rfl)) (pa_cons (pe_ix ix_tup (pe_tup (pa_cons pe_str (pa_cons pe_str (pa_cons pe_str (pa_cons pe_str pa_nil))))) (pc c_law_draw rm (by decide) gd rfl (pa_cons (pv 0) (pa_cons pe_int pa_nil))) (fun _ _ => rfl)) pa_nil)))))))), ?_⟩
    walk_at "go"
    refine new (by show 7 ≤ sizeLine; decide) fun t1 H1 n1 h1 s1 => ?_
    walk_at "go"
    refine new (by show 2 ≤ sizeLine; decide) fun t2 H2 n2 h2 s2 => ?_
    walk_at "go"
    refine ⟨p, l, cells, n, 2, rfl, (pen.same s1).same s2, by omega, by decide, by decide, fun i1 H3 b0 b1 pen1 k1 => ?_⟩
    have pn : ∀ {t : Addr} {xs : List V} {m : Nat} {G : Hp}, G t = some (.tup xs) → PenC m p l cells G → t ≠ p := fun h ⟨_, _, _, _, _, z⟩ => ne_of h z (by intro y; cases y)
    have h2' := k1 _ _ h2 (pn h2 ((pen.same s1).same s2))
    have h1' := k1 _ _ (s2 _ _ h1) (pn (s2 _ _ h1) ((pen.same s1).same s2))
    obtain ⟨r, hr, er⟩ := at_strs (l := RD) b0 b1
    refine w_ixT (SqT.of h2') er ?_
    walk_at "go"
    refine ⟨p, l, cells, n + 1, 7, rfl, pen1, by omega, by decide, by decide, fun i2 H4 c0 c1 pen2 k2 => ?_⟩
    obtain ⟨wr, hw, ew⟩ := at_strs (l := WR) c0 c1
    refine w_ixT (SqT.of (k2 _ _ h1' (pn h1' pen1))) ew ?_
    walk_at "go"
    refine new (by show 4 ≤ sizeLine; decide) fun t3 H5 n5 h5 s5 => ?_
    walk_at "go"
    refine ⟨p, l, cells, n + 2, 4, rfl, pen2.same s5, by omega, by decide, by decide, fun i3 H6 e0 e1 pen3 k3 => ?_⟩
    obtain ⟨d, hd, ed⟩ := at_strs (l := DV) e0 e1
    refine w_ixT (SqT.of (k3 _ _ h5 (pn h5 (pen2.same s5)))) ed ?_
    walk_at "go"
    refine new (by show 3 ≤ sizeLine; decide) fun t7 H7 n7 h7 s7 => ?_
    have kAll : Kp p H H7 := fun b o hb nb => s7 _ _ (k3 _ _ (s5 _ _ (k2 _ _ (k1 _ _ (s2 _ _ (s1 _ _ hb)) nb) nb)) nb)
    have nt : H t7 = none := by
      cases z : H t7 with
      | none => rfl
      | some o =>
        by_cases e : t7 = p
        · obtain ⟨_, _, _, _, _, zp⟩ := pen3
          rw [e] at n7
          rw [n7] at zp
          cases zp
        · have y := k3 _ _ (s5 _ _ (k2 _ _ (k1 _ _ (s2 _ _ (s1 _ _ z)) e) e)) e
          rw [n7] at y
          cases y
    exact q t7 r wr d H7 hr hw hd nt h7 (pen3.same s7) kAll
end
def St (w : Str) (s : Int) : Prop := s = 0 ∨ s = 1 ∨ (w = "once" ∧ (s = 2 ∨ s = 3))
theorem St.four {w : Str} {s : Int} (h : St w s) : St4 s := by
  rcases h with h | h | ⟨_, h | h⟩
  · exact .inl h
  · exact .inr (.inl h)
  · exact .inr (.inr (.inl h))
  · exact .inr (.inr (.inr h))
theorem rd_eq {r : Str} {s : Int} (h : St4 s) : rdF r s = rdL r s := by
  unfold rdF rdL
  split
  · rcases h with rfl | rfl | rfl | rfl <;> decide
  · rfl
theorem dv_eq {d : Str} {s : Int} (hd : d ∈ DV) (h : St4 s) : dvF d s = dvL d s := by
  simp only [DV, List.mem_cons, List.not_mem_nil, or_false] at hd
  rcases hd with rfl | rfl | rfl | rfl <;> rcases h with rfl | rfl | rfl | rfl <;> decide +kernel
theorem wr_eq {w : Str} {s b : Int} (hw : w ∈ WR) (h : St w s) (hb : b = 0 ∨ b = 1) : awF w s b = wrL w s b := by
  by_cases e : w = "once"
  · subst e
    rcases h.four with rfl | rfl | rfl | rfl <;> rcases hb with rfl | rfl <;> decide +kernel
  · have h2 : s = 0 ∨ s = 1 := by
      rcases h with h | h | h
      · exact .inl h
      · exact .inr h
      · exact absurd h.1 e
    unfold awF wrL
    rw [if_neg e]
    rcases h2 with rfl | rfl <;> simp [Builtin.bitAnd, show Builtin.bitAnd 0 2 = 0 from by decide, show Builtin.bitAnd 0 1 = 0 from by decide, show Builtin.bitAnd 1 2 = 0 from by decide, show Builtin.bitAnd 1 1 = 1 from by decide]
end Law

set_option Elab.async false
set_option linter.all false
set_option maxRecDepth 100000
set_option maxHeartbeats 4000000
namespace Law
open PySem PySem.Spec PySem.Calls PyProof.Rows L2 KG LamX
local macro_rules | `(tactic| walk_at "1") => `(tactic| first
  | (with_reducible refine w_var rfl ?_) | (with_reducible refine w_c ?_) | (with_reducible refine w_seq ?_) | (with_reducible refine w_asg ?_) | (with_reducible refine w_gname ?_) | (with_reducible refine w_op ?_) | (with_reducible refine w_un ?_)
  | (with_reducible refine w_add ?_) | (with_reducible refine w_sub ?_) | ((with_reducible refine' w_mod ?mo ?_); (case mo => first | assumption | decide | omega)) | (with_reducible refine w_and ?_) | (with_reducible refine w_or ?_) | (with_reducible refine w_xor ?_)
  | (with_reducible refine w_gt ?_) | (with_reducible refine w_lt ?_) | (with_reducible refine w_ge ?_) | (with_reducible refine w_le ?_) | ((with_reducible refine' w_eq ?sc ?_); (case sc => rfl)) | ((with_reducible refine' w_ne ?sc ?_); (case sc => rfl))
  | (with_reducible refine w_ret ?_) | (with_reducible refine w_next ?_) | (with_reducible refine w_ifs ?_) | (with_reducible refine w_ifx ?_) | (with_reducible refine w_test ?_) | (with_reducible refine w_tB ?_) | (with_reducible refine w_bl ?_)
  | ((with_reducible refine' w_ixL ?ixh ?ixa ?_); (case ixh => first | exact SqL.of (by assumption)); (case ixa => first | rfl | skip)) | ((with_reducible refine' w_ixT ?ixh ?ixa ?_); (case ixh => first | exact SqT.of (by assumption)); (case ixa => first | rfl | skip))
  | ((with_reducible refine' w_fld ?_)) | ((with_reducible refine' fld ?fh ?fc ?fn ?fl ?_); (case fh => assumption); (case fc => assumption); (case fn => assumption); (case fl => rfl)) | (with_reducible refine w_sfld ?_)
  | (with_reducible refine Or.inl ⟨_, rfl, ?_⟩) | (with_reducible refine w_gsub ?_) | (with_reducible refine w_andV ?_) | (with_reducible refine w_orV ?_)
  | (with_reducible refine w_nil ?_) | (with_reducible refine w_cons ?_) | (with_reducible refine w_tup ?_) | (with_reducible refine w_lst ?_) | (with_reducible refine w_and2 ?_) | (with_reducible refine w_or2 ?_) | (with_reducible refine w_not ?_) | (with_reducible refine w_cb ?_) | (with_reducible refine w_call ?_) | (with_reducible refine w_par ?_) | (with_reducible refine w_pnil ?_) | (with_reducible refine w_pcons ?_) | (with_reducible refine w_dput ?_) | (with_reducible refine w_dget ?_) | (with_reducible refine w_for ?_) | (with_reducible refine w_itup ?_) | (with_reducible refine w_ilist ?_) | (with_reducible refine w_irng ?_) | (with_reducible refine w_meth ?_) | (with_reducible refine w_make ?_) | (with_reducible refine w_makeK ?_) | (with_reducible refine w_methK ?_) | ((with_reducible refine' mth ?mh ?ml ?_); (case mh => assumption); (case ml => rfl)) | (with_reducible refine w_drop ?_))
local macro_rules | `(tactic| walk_at "go") => `(tactic| ((repeat (walk_at "1")); try dsimp only))
local macro_rules | `(tactic| walk_at "1") => `(tactic| first
  | (with_reducible refine w_notV ?_) | (with_reducible refine w_callK ?_) | (with_reducible refine w_lc ?_) | (with_reducible refine w_chain ?_) | (with_reducible refine w_neg ?_) | ((with_reducible refine' w_shr ?mo ?_); (case mo => first | assumption | omega)))
def spStates : Sp := fun vs H Q _ => ∃ (t : Addr) (r w d : Str), vs = [.ref t] ∧ H t = some (.tup [.str r, .str w, .str d]) ∧ ∀ t' H', H t' = none → H' t' = some (.tup ((stN w).map V.int)) → Same H H' → Q (.ref t') H'
def spLets : Sp := fun vs H Q _ => ∃ (p l : Addr) (cells : List Int) (n : Nat) (m : Int), vs = [.ref p, .int m] ∧ PenC n p l cells H ∧ n + 60 ≤ 100000 ∧ 0 ≤ m ∧ m ≤ 40 ∧ ∀ (x : Str) H', Lets x → PenC (n + 45) p l cells H' → Kp p H H' → Q (.str x) H'
theorem app_cps (x y : Str) : (x ++ y).cps.toList = x.cps.toList ++ y.cps.toList := by
  show (x.cps ++ y.cps).toList = _
  exact Array.toList_append
theorem join_ones : ∀ cs : List Nat, (Str.join Str.empty (cs.map one)).cps.toList = cs
  | [] => rfl
  | [c] => rfl
  | c :: b :: cs => by
    show (one c ++ Str.empty ++ Str.join Str.empty ((b :: cs).map one)).cps.toList = _
    rw [app_cps, app_cps, join_ones (b :: cs)]
    rfl
theorem sum_ones : ∀ cs : List Nat, ((cs.map one).map (·.length)).sum = cs.length
  | [] => rfl
  | c :: cs => by
    rw [List.map_cons, List.map_cons, List.sum_cons, sum_ones cs, List.length_cons]
    show 1 + cs.length = cs.length + 1
    omega
def SG : List Str := ["01r", "01r", "011r", "00r", "rr01", "1r"]
theorem sg_ok : ∀ z ∈ SG, 1 ≤ z.cps.toList.length ∧ z.cps.toList.length ≤ 4 ∧ ∀ c ∈ z.cps.toList, c ∈ ("01r" : Str).cps.toList := by decide +kernel
theorem PenC.mono {n m : Nat} {p l : Addr} {cells : List Int} {H : Hp} (h : PenC n p l cells H) (hm : n ≤ m) : PenC m p l cells H := by
  obtain ⟨q, h1, x, y, z, h2⟩ := h
  exact ⟨q, h1, x, y, Nat.le_trans z hm, h2⟩
theorem PenC.ne {n : Nat} {p l D : Addr} {cells : List Int} {H : Hp} (pen : PenC n p l cells H) (nD : H D = none) : D ≠ p ∧ D ≠ l := by
  obtain ⟨_, h1, _, _, _, h2⟩ := pen
  exact ⟨(fun z => by rw [z, h2] at nD; cases nD), (fun z => by rw [z, h1] at nD; cases nD)⟩
theorem PenC.put {n : Nat} {p l D : Addr} {cells : List Int} {H : Hp} {o : HO} (pen : PenC n p l cells H) (n1 : D ≠ p) (n2 : D ≠ l) : PenC n p l cells (upd H D o) := by
  obtain ⟨q, h1, x, y, z, h2⟩ := pen
  exact ⟨q, (upd_ne n2.symm).trans h1, x, y, z, (upd_ne n1.symm).trans h2⟩
theorem w_tM1 {r : V → List V → Hp → VK → Prop} {to te : TE} {σ : L2.St} {H : Hp} {Q : VK} (q : to σ H fun x H1 => (∃ a, x = .str a) ∧ te σ H1 fun y H2 => r x [y] H2 Q) : tM1 r to te σ H Q := q
section
variable {P : Program} {w : World} {K : PySem.W.Frag} {mg : Str → Option Value} {base : Heap}
theorem ok_states (D : DefAt K mg "_law_states" s__law_states ["_law_words_here"]) : Cal P w K mg base 1 "_law_states" spStates := by
  refine D.cal sc__law_states (fun vs H Q E h => ?_) (fun f cdv A outer s H vs Q E rm gd h => ?_)
  · obtain ⟨t, r, wr, d, rfl, _⟩ := h
    rfl
  · obtain ⟨t, r, wr, d, rfl, ht, q⟩ := h
    refine ⟨_, (pss_one (ps_ret (pe_ifExp (pt_cmpR op_eq (pe_ix ix_tup (pv 0) pe_int (fun _ _ => rfl)) pe_str (nomark _)) (pe_tup (pa_cons pe_int (pa_cons pe_int (pa_cons pe_int (pa_cons pe_int pa_nil))))) (pe_tup (pa_cons pe_int (pa_cons pe_int pa_nil)))))), ?_⟩
    walk_at "go"
    by_cases e : wr = "once"
    · subst e
      refine ite2 (fun _ => ?_) fun h => absurd (by decide) h
      walk_at "go"
      refine new (show 4 ≤ sizeLine by decide) fun t' H' n h' s' => ?_
      exact q t' H' n (by unfold stN; rw [if_pos rfl]; exact h') s'
    · refine ite2 (fun h => absurd (V.str.inj (of_decide_eq_true h)) e) fun _ => ?_
      walk_at "go"
      refine new (show 2 ≤ sizeLine by decide) fun t' H' n h' s' => ?_
      exact q t' H' n (by unfold stN; rw [if_neg e]; exact h') s'
theorem ok_letters (D : DefAt K mg "_law_letters" s__law_letters ["_law_pen_here", "_law_most"]) (B : B1 mg) (c_law_draw : Cal P w K mg base 1 "_law_draw" spDraw) : Cal P w K mg base 2 "_law_letters" spLets := by
  refine D.cal (k := 1) sc__law_letters (fun vs H Q E h => ?_) (fun f cdv A outer s H vs Q E rm gd h => ?_)
  · obtain ⟨p, l, cells, n, m, rfl, _⟩ := h
    rfl
  · obtain ⟨p, l, cells, n, m, rfl, pen, hn, m0, m1, q⟩ := h
    refine ⟨_, (pss_cons (ps_set (i := 2) sc__law_letters.nd rfl (Or.inl rfl) (pe_ix ix_list (pe_lst (pa_cons (pc c_law_draw rm (by decide) gd rfl (pa_cons (pv 0) (pa_cons (pe_op op_add (pv 1) pe_int) pa_nil))) (pa_cons (pc c_law_draw rm (by decide) gd rfl (pa_cons (pv 0) (pa_cons pe_int pa_nil))) (pa_cons (pc c_law_draw rm (by decide) gd rfl (pa_cons (pv 0) (pa_cons pe_int pa_nil))) pa_nil)))) (pc c_law_draw rm (by decide) gd rfl (pa_cons (pv 0) (pa_cons pe_int pa_nil))) (fun _ _ => rfl)))
    (pss_cons (ps_set (i := 3) sc__law_letters.nd rfl (Or.inr rfl) (pe_ix ix_list (pe_lst (pa_cons pe_str (pa_cons pe_str (pa_cons pe_str (pa_cons pe_str (pa_cons pe_str (pa_cons pe_str pa_nil))))))) (pc c_law_draw rm (by decide) gd rfl (pa_cons (pv 0) (pa_cons pe_int pa_nil))) (fun _ _ => rfl)))
    (pss_one (ps_ret (pe_join pe_str (pe_lc (own := [("_law_turn", 4)]) (g := (gName 4)) (by rfl) sc__law_letters.nd (pi_range1 rfl B.g_range (pa_cons (pv 2) pa_nil)) (blkOk_by (own := [("_law_turn", 4)]) (N := ["_law_pen_here", "_law_most", "_law_size", "_law_signs", "_law_turn"]) (sc := defScope s__law_letters) (by decide +kernel)) (fun _ _ _ _ _ => (pg_name (i := 4) sc__law_letters.nd rfl (Or.inl rfl))) (fun _ _ _ _ _ => pts_nil) (fun _ _ _ _ _ => (pe_ix ix_str (pv 3) (pc c_law_draw rm (by decide) gd rfl (pa_cons (pv 0) (pa_cons (pe_callB call_len_str (by rfl) B.g_len (by decide +kernel) (pa_cons (pv 3) pa_nil)) pa_nil))) (fun _ _ => rfl))))))))), ?_⟩
    walk_at "go"
    refine ⟨p, l, cells, n, m + 1, rfl, pen, by omega, by omega, by omega, fun d1 H1 a0 a1 pen1 k1 => ?_⟩
    walk_at "go"
    refine ⟨p, l, cells, n + 1, 5, rfl, pen1, by omega, by decide, by decide, fun d2 H2 b0 b1 pen2 k2 => ?_⟩
    walk_at "go"
    refine ⟨p, l, cells, n + 2, 9, rfl, pen2, by omega, by decide, by decide, fun d3 H3 c0 c1 pen3 k3 => ?_⟩
    walk_at "go"
    refine new (show 3 ≤ sizeLine by decide) fun t4 H4 n4 h4 s4 => ?_
    walk_at "go"
    have pen4 := pen3.same s4
    refine ⟨p, l, cells, n + 3, 3, rfl, pen4, by omega, by decide, by decide, fun d5 H5 e0 e1 pen5 k5 => ?_⟩
    obtain ⟨t4p, t4l⟩ := pen3.ne n4
    have h5 := k5 _ _ h4 t4p
    obtain ⟨sz, z0, z1, ez⟩ : ∃ sz : Int, 0 ≤ sz ∧ sz ≤ 40 ∧ atI [V.int d1, V.int d2, V.int d3] d5 = some (.int sz) := by
      have h3 : d5 = 0 ∨ d5 = 1 ∨ d5 = 2 := by omega
      rcases h3 with rfl | rfl | rfl
      · exact ⟨d1, a0, by omega, rfl⟩
      · exact ⟨d2, b0, by omega, rfl⟩
      · exact ⟨d3, c0, by omega, rfl⟩
    refine w_ixL (SqL.of h5) ez ?_
    walk_at "go"
    refine new (show 6 ≤ sizeLine by decide) fun t6 H6 n6 h6 s6 => ?_
    walk_at "go"
    have pen6 := pen5.same s6
    refine ⟨p, l, cells, n + 4, 6, rfl, pen6, by omega, by decide, by decide, fun d7 H7 f0 f1 pen7 k7 => ?_⟩
    obtain ⟨t6p, t6l⟩ := pen5.ne n6
    obtain ⟨z, hz, ezz⟩ := at_strs (l := SG) f0 f1
    obtain ⟨zl, zh, zc⟩ := sg_ok z hz
    refine w_ixL (SqL.of (k7 _ _ h6 t6p)) ezz ?_
    walk_at "go"
    have kA : Kp p H H7 := fun b o hb nb => k7 _ _ (s6 _ _ (k5 _ _ (s4 _ _ (k3 _ _ (k2 _ _ (k1 _ _ hb nb) nb) nb)) nb)) nb
    refine w_tM1 ?_
    walk_at "go"
    refine ⟨⟨_, rfl⟩, ?_⟩
    walk_at "go"
    refine over_r (by omega) (by omega) ?_
    intro D nD
    have zD : Same H7 (upd H7 D (.lst [])) := fun b u e => by
      rw [upd_ne (ne_of_none e nD)]
      exact e
    obtain ⟨Dp, Dl⟩ := pen7.ne nD
    obtain ⟨szn, rfl⟩ := Int.eq_ofNat_of_zero_le z0
    have ns : ((szn : Nat) : Int).toNat = szn := Int.toNat_natCast szn
    refine lc_range (lo := 0) (n := ((szn : Nat) : Int).toNat) (fun i H' => ∃ cs : List Nat, H' D = some (.lst ((cs.map one).map V.str)) ∧ cs.length = i ∧ (∀ c ∈ cs, c ∈ ("01r" : Str).cps.toList) ∧ PenC (n + 5 + i) p l cells H' ∧ Kp p H H') ⟨[], upd_same, rfl, fun c hc => by simp at hc, pen7.same zD, fun b o hb nb => zD _ _ (kA b o hb nb)⟩ (fun i H8 hi ⟨cs, hD, hl, hc, pen8, k8⟩ => ?_) (fun H8 ⟨cs, hD, hl, hc, pen8, k8⟩ => ?_)
    · rw [ns] at hi
      walk_at "go"
      refine ⟨rfl, ?_⟩
      try unfold tYes
      refine iteT ?_
      walk_at "go"
      refine ⟨z, rfl, Nat.le_trans (show z.cps.size ≤ 4 by rw [← Array.length_toList]; exact zh) (by decide), ?_⟩
      walk_at "go"
      have hzl : (z.length : Int) = (z.cps.toList.length : Int) := by
        show ((z.cps.size : Nat) : Int) = _
        rw [Array.length_toList]
      refine ⟨p, l, cells, n + 5 + i, _, rfl, pen8, by omega, by omega, by omega, fun d9 H9 g0 g1 pen9 k9 => ?_⟩
      obtain ⟨j, rfl⟩ := Int.eq_ofNat_of_zero_le g0
      obtain ⟨c, ec⟩ : ∃ c, z.cps.toList[j]? = some c := ⟨_, List.getElem?_eq_getElem (by omega)⟩
      refine ⟨z, _, c, rfl, rfl, Nat.le_trans (show z.cps.size ≤ 4 by rw [← Array.length_toList]; exact zh) (by decide), atI_nat ec, ?_⟩
      have hD9 := k9 _ _ hD Dp
      refine ⟨_, hD9, big_of (by rw [List.length_map, List.length_map]; omega), cs ++ [c], ?_, by rw [List.length_append, hl]; rfl, fun x hx => ?_, pen9.put Dp Dl, fun b o hb nb => ?_⟩
      · rw [upd_same, List.map_append, List.map_append]
        rfl
      · rcases List.mem_append.mp hx with hx | hx
        · exact hc x hx
        · rw [List.mem_singleton.mp hx]
          exact zc c (List.mem_of_getElem? ec)
      · have nbD : b ≠ D := fun e => by
          rw [e] at hb
          have := kA _ _ hb (fun y => Dp y)
          rw [nD] at this
          cases this
        rw [upd_ne nbD]
        exact k9 _ _ (k8 _ _ hb nb) nb
    · walk_at "go"
      refine ⟨Str.empty, D, cs.map one, rfl, rfl, .inl (SqL.of hD), ?_, ?_⟩
      · rw [sum_ones]
        have : (Str.empty : Str).length = 0 := rfl
        rw [this]
        omega
      · have ex : (Txt.join Str.empty (cs.map one)).cps.toList = cs := by rw [TL.join_eq, join_ones]
        refine q _ H8 ⟨?_, fun c h => hc c (ex ▸ h)⟩ (pen8.mono (by omega)) k8
        rw [← Array.length_toList, ex]
        omega
end
end Law

set_option Elab.async false
set_option linter.all false
set_option maxRecDepth 100000
set_option maxHeartbeats 4000000
namespace Law
open PySem PySem.Spec PySem.Calls PyProof.Rows L2 KG LamX
local macro_rules | `(tactic| walk_at "1") => `(tactic| first
  | (with_reducible refine w_var rfl ?_) | (with_reducible refine w_c ?_) | (with_reducible refine w_seq ?_) | (with_reducible refine w_asg ?_) | (with_reducible refine w_gname ?_) | (with_reducible refine w_op ?_) | (with_reducible refine w_un ?_)
  | (with_reducible refine w_add ?_) | (with_reducible refine w_sub ?_) | ((with_reducible refine' w_mod ?mo ?_); (case mo => first | assumption | decide | omega)) | (with_reducible refine w_and ?_) | (with_reducible refine w_or ?_) | (with_reducible refine w_xor ?_)
  | (with_reducible refine w_gt ?_) | (with_reducible refine w_lt ?_) | (with_reducible refine w_ge ?_) | (with_reducible refine w_le ?_) | ((with_reducible refine' w_eq ?sc ?_); (case sc => rfl)) | ((with_reducible refine' w_ne ?sc ?_); (case sc => rfl))
  | (with_reducible refine w_ret ?_) | (with_reducible refine w_next ?_) | (with_reducible refine w_ifs ?_) | (with_reducible refine w_ifx ?_) | (with_reducible refine w_test ?_) | (with_reducible refine w_tB ?_) | (with_reducible refine w_bl ?_)
  | ((with_reducible refine' w_ixL ?ixh ?ixa ?_); (case ixh => first | exact SqL.of (by assumption)); (case ixa => first | rfl | skip)) | ((with_reducible refine' w_ixT ?ixh ?ixa ?_); (case ixh => first | exact SqT.of (by assumption)); (case ixa => first | rfl | skip))
  | ((with_reducible refine' w_fld ?_)) | ((with_reducible refine' fld ?fh ?fc ?fn ?fl ?_); (case fh => assumption); (case fc => assumption); (case fn => assumption); (case fl => rfl)) | (with_reducible refine w_sfld ?_)
  | (with_reducible refine Or.inl ⟨_, rfl, ?_⟩) | (with_reducible refine w_gsub ?_) | (with_reducible refine w_andV ?_) | (with_reducible refine w_orV ?_)
  | (with_reducible refine w_nil ?_) | (with_reducible refine w_cons ?_) | (with_reducible refine w_tup ?_) | (with_reducible refine w_lst ?_) | (with_reducible refine w_and2 ?_) | (with_reducible refine w_or2 ?_) | (with_reducible refine w_not ?_) | (with_reducible refine w_cb ?_) | (with_reducible refine w_call ?_) | (with_reducible refine w_par ?_) | (with_reducible refine w_pnil ?_) | (with_reducible refine w_pcons ?_) | (with_reducible refine w_dput ?_) | (with_reducible refine w_dget ?_) | (with_reducible refine w_for ?_) | (with_reducible refine w_itup ?_) | (with_reducible refine w_ilist ?_) | (with_reducible refine w_irng ?_) | (with_reducible refine w_meth ?_) | (with_reducible refine w_make ?_) | (with_reducible refine w_makeK ?_) | (with_reducible refine w_methK ?_) | ((with_reducible refine' mth ?mh ?ml ?_); (case mh => assumption); (case ml => rfl)) | (with_reducible refine w_drop ?_))
local macro_rules | `(tactic| walk_at "go") => `(tactic| ((repeat (walk_at "1")); try dsimp only))
local macro_rules | `(tactic| walk_at "1") => `(tactic| first
  | (with_reducible refine w_notV ?_) | (with_reducible refine w_callK ?_) | (with_reducible refine w_lc ?_) | (with_reducible refine w_chain ?_) | (with_reducible refine w_neg ?_) | ((with_reducible refine' w_shr ?mo ?_); (case mo => first | assumption | omega)))
def subs : List (List Int) := (List.range 16).map fun m => S4.filter fun k => (m / 2 ^ k.toNat) % 2 == 1
theorem pick_subs (S : Int → Bool) : pick S ∈ subs := by
  have key : ∀ a b c d : Bool, (((if a then [0] else []) ++ (if b then [1] else []) ++ (if c then [2] else []) ++ (if d then [3] else []) : List Int)) ∈ subs := by decide +kernel
  have e : pick S = (if S 0 then [0] else []) ++ (if S 1 then [1] else []) ++ (if S 2 then [2] else []) ++ (if S 3 then [3] else []) := by
    unfold pick S4
    cases h0 : S 0 <;> cases h1 : S 1 <;> cases h2 : S 2 <;> cases h3 : S 3 <;> simp [List.filter, h0, h1, h2, h3]
  rw [e]
  exact key _ _ _ _
def asc (l : List Int) : List Int := pick fun k => l.contains k
def cloS (d : Str) (l : List Int) : List Int := pick fun k => l.contains k || l.any fun s => (dvI d s).contains k
def itF (d : Str) (f : List Int) : Nat → List Int
  | 0 => f
  | n + 1 => itF d f n ++ (dvI d ((itF d f n).getD n 0)).filter fun e => !(itF d f n).contains e
theorem itF_fact : ∀ d ∈ DV, ∀ f ∈ subs, ∀ n ∈ List.range 5, ((∀ m ∈ List.range n, m < (itF d f m).length) → n ≤ (itF d f n).length ∧ (itF d f n).length ≤ 4 ∧ (itF d f n).Nodup ∧ (∀ k ∈ itF d f n, 0 ≤ k ∧ k < 4) ∧ ((itF d f n).length = n → pick (fun k => (itF d f n).contains k) = cloS d f)) := by decide +kernel
theorem cloS_asc (d : Str) (l : List Int) (h : ∀ k ∈ l, 0 ≤ k ∧ k < 4) : cloS d (asc l) = cloS d l := by
  have m : ∀ k, k ∈ asc l ↔ k ∈ l := fun k => by
    unfold asc
    rw [pick_mem, List.contains_iff_mem]
    exact ⟨fun z => z.2, fun z => ⟨h k z, z⟩⟩
  refine asc_uniq (pick_asc _) (pick_asc _) fun k => ?_
  unfold cloS
  rw [pick_mem, pick_mem, Bool.or_eq_true, Bool.or_eq_true, List.contains_iff_mem, List.contains_iff_mem, m k, List.any_eq_true, List.any_eq_true]
  simp only [m]
theorem inV_ints (k : Int) : ∀ l : List Int, inV (.int k) (l.map V.int) = l.contains k
  | [] => rfl
  | x :: l => by
    have ih := inV_ints k l
    unfold inV at ih ⊢
    rw [List.map_cons, List.any_cons, ih, List.contains_cons]
    congr 1
    show decide (x = k) = (k == x)
    by_cases h : x = k
    · subst h
      simp
    · rw [decide_eq_false h]
      exact (beq_eq_false_iff_ne.mpr fun z => h z.symm).symm
theorem flat_ints : ∀ l : List Int, (l.map V.int).all flatV = true
  | [] => rfl
  | _ :: l => flat_ints l
theorem dvL_I {d : Str} {s : Int} (hd : d ∈ DV) (h : St4 s) : dvL d s = (dvI d s).map V.int := (dv_eq hd h).symm.trans (dvI_V d s)
theorem dvI_len (d : Str) (s : Int) : (dvI d s).length ≤ 1 := by
  unfold dvI
  split <;> simp
theorem filter_snoc (p : Int → Bool) (l : List Int) (v : Int) : (l ++ [v]).filter p = l.filter p ++ (if p v = true then [v] else []) := by
  rw [List.filter_append]
  by_cases h : p v = true
  · rw [if_pos h, List.filter_cons_of_pos h, List.filter_nil]
  · rw [if_neg h, List.filter_cons_of_neg h, List.filter_nil]
def spClosed (K : PySem.W.Frag) : Sp := fun vs H Q _ => ∃ (d : Str) (t : Addr) (l : List Int), vs = [.str d, .ref t] ∧ d ∈ DV ∧ SqL K H t (l.map V.int) ∧ l.length ≤ 8 ∧ (∀ k ∈ l, 0 ≤ k ∧ k < 4) ∧ ∀ p H', H p = none → H' p = some (.lst ((cloS d l).map V.int)) → Same H H' → Q (.ref p) H'
section
variable {P : Program} {w : World} {K : PySem.W.Frag} {mg : Str → Option Value} {base : Heap}
theorem ok_closed (D : DefAt K mg "_law_closed" s__law_closed ["_law_device", "_law_states_here"]) (B : B1 mg) (c_law_deeds : Cal P w K mg base 1 "_law_deeds" spDvL) : Cal P w K mg base 2 "_law_closed" (spClosed K) := by
  refine D.cal (k := 1) sc__law_closed (fun vs H Q E h => ?_) (fun f cdv A outer s H vs Q E rm gd h => ?_)
  · obtain ⟨d, t, l, rfl, _⟩ := h
    rfl
  · obtain ⟨d, t, l, rfl, hd, hl, hlen, hb, q⟩ := h
    refine ⟨_, (pss_cons (ps_set (i := 2) sc__law_closed.nd rfl (Or.inr rfl) (pe_callB (cr_sortedSet rfl) (by rfl) B.g_sorted (by decide +kernel) (pa_cons (pe_callTy (cr_setI rfl) (by rfl) B.g_set (by decide +kernel) (pa_cons (pv 1) pa_nil)) pa_nil)))
    (pss_cons (ps_set (i := 3) sc__law_closed.nd rfl (Or.inl rfl) pe_int)
    (pss_cons (ps_while PassesOwn.never (pt_cmpR op_lt (pv 3) (pe_callB call_len_seq (by rfl) B.g_len (by decide +kernel) (pa_cons (pv 2) pa_nil)) (nomark _))
      (pss_cons (ps_set (i := 2) sc__law_closed.nd rfl (Or.inr rfl) (pe_op op_cat (pv 2) (pe_lc (own := [("_law_end", 4)]) (g := (gName 4)) (by rfl) sc__law_closed.nd (pi_tup (pc c_law_deeds rm (by decide) gd rfl (pa_cons (pv 0) (pa_cons (pe_ix ix_list (pv 2) (pv 3) (fun _ _ => rfl)) pa_nil)))) (blkOk_by (own := [("_law_end", 4)]) (N := ["_law_device", "_law_states_here", "_law_found", "_law_at", "_law_end"]) (sc := defScope s__law_closed) (by decide +kernel)) (fun _ _ _ _ _ => (pg_name (i := 4) sc__law_closed.nd rfl (Or.inl rfl))) (fun _ _ _ _ _ => (pts_one (pt_cmpR (r := rIn K true) op_notIn_seq (pv 4) (pv 2) rfl))) (fun _ _ _ _ _ => (pv 4)))))
      (pss_one (ps_set (i := 3) sc__law_closed.nd rfl (Or.inl rfl) (pe_op op_add (pv 3) pe_int)))))
    (pss_one (ps_ret (pe_callB cr_sorted (by rfl) B.g_sorted (by decide +kernel) (pa_cons (pv 2) pa_nil))))))), ?_⟩
    walk_at "go"
    refine ⟨t, l, rfl, hl, by omega, fun aS c na hc => ?_⟩
    have x1 : Same H (upd H aS (SetO w aS (fun j => decide (j ∈ l)) c)) := fun b o e => by
      rw [upd_ne (ne_of_none e na)]
      exact e
    have i1 : upd H aS (SetO w aS (fun j => decide (j ∈ l)) c) aS = some (SetO w aS (fun j => decide (j ∈ l)) c) := upd_same
    show _root_.L2.tNil _ (upd H aS (SetO w aS (fun j => decide (j ∈ l)) c)) _
    generalize upd H aS (SetO w aS (fun j => decide (j ∈ l)) c) = H1 at x1 i1
    walk_at "go"
    refine ⟨aS, _, c, rfl, i1, by omega, fun ns p pw hm _ np => ?_⟩
    have ens : ns = asc l := asc_pick pw hm fun k => by
      rw [decide_eq_true_eq, List.contains_iff_mem]
      exact ⟨fun z => ⟨hb k z, z⟩, fun z => z.2⟩
    subst ens
    have x2 : Same H1 (upd H1 p (.lst ((asc l).map V.int))) := fun b o e => by
      rw [upd_ne (ne_of_none e np)]
      exact e
    have hp : upd H1 p (.lst ((asc l).map V.int)) p = some (.lst ((asc l).map V.int)) := upd_same
    generalize upd H1 p (.lst ((asc l).map V.int)) = H2 at x2 hp ⊢
    have x02 := x1.trans x2
    walk_at "go"
    have sub := pick_subs fun k => l.contains k
    have fact := fun n hn => itF_fact d hd (asc l) sub n (List.mem_range.mpr hn)
    refine ⟨fun m σ H' => ∃ (n : Nat) (pf : Addr) (v4 : Option V), m = 5 - n ∧ n ≤ 4 ∧ (∀ m ∈ List.range n, m < (itF d (asc l) m).length) ∧ σ = [some (.str d), some (.ref t), some (.ref pf), some (.int n), v4] ∧ H' pf = some (.lst ((itF d (asc l) n).map V.int)) ∧ Same H H', ⟨5, 0, p, none, rfl, by omega, (fun m hm => by simp at hm), rfl, hp, x02⟩, ?_⟩
    rintro m σ H3 ⟨n, pf, v4, rfl, n4, nl, rfl, hf, s3⟩
    obtain ⟨g0, g1, g2, g3, g4⟩ := fact n (by omega) nl
    walk_at "go"
    refine ⟨pf, _, rfl, .inl (SqL.of hf), ?_⟩
    rw [List.length_map]
    walk_at "go"
    by_cases lt : n < (itF d (asc l) n).length
    · refine ite2 (fun _ => ?_) fun h => absurd (decide_eq_true (by omega)) h
      have n1 : n + 1 ≤ 4 := by omega
      have nl1 : ∀ m ∈ List.range (n + 1), m < (itF d (asc l) m).length := fun m hm => by
        rw [List.range_succ] at hm
        rcases List.mem_append.mp hm with hm | hm
        · exact nl m hm
        · rw [List.mem_singleton.mp hm]
          exact lt
      refine ⟨fun σ' H' => ∃ (pf : Addr) (v4 : Option V), σ' = [some (.str d), some (.ref t), some (.ref pf), some (.int ((n + 1 : Nat) : Int)), v4] ∧ H' pf = some (.lst ((itF d (asc l) (n + 1)).map V.int)) ∧ Same H H', fun σ' H' ⟨pf, v4, e1, e2, e3⟩ => ⟨5 - (n + 1), by omega, n + 1, pf, v4, rfl, n1, nl1, e1, e2, e3⟩, ?_⟩
      obtain ⟨x, ex⟩ : ∃ x, (itF d (asc l) n)[n]? = some x := ⟨_, List.getElem?_eq_getElem lt⟩
      have xd : (itF d (asc l) n).getD n 0 = x := by rw [List.getD_eq_getElem?_getD, ex]; rfl
      have x4 : St4 x := by
        have := g3 x (List.mem_of_getElem? ex)
        unfold St4
        omega
      walk_at "go"
      refine w_ixL (SqL.of hf) (v := .int x) (atI_nat (by rw [List.getElem?_map, ex]; rfl)) ?_
      walk_at "go"
      refine ⟨d, x, rfl, fun t4 H4 n4' h4 s4 => ?_⟩
      rw [dvL_I hd x4] at h4
      refine over_t (SqT.of h4) ?_
      intro D nD
      have zD : Same H4 (upd H4 D (.lst [])) := fun b o e => by
        rw [upd_ne (ne_of_none e nD)]
        exact e
      refine lc_tup (K := K) (a := t4) (xs := (dvI d x).map V.int) (fun i H' => H' D = some (.lst ((((dvI d x).take i).filter fun e => !(itF d (asc l) n).contains e).map V.int)) ∧ Same H4 H') ⟨upd_same, zD⟩ (fun i H' _ ⟨_, s⟩ => SqT.of (s _ _ h4)) (fun i y H5 hy ⟨hD, s5⟩ => ?_) (fun H5 ⟨hD, s5⟩ => ?_)
      · obtain ⟨v, hv, rfl⟩ := ints_at hy
        walk_at "go"
        refine ⟨rfl, ?_⟩
        walk_at "go"
        refine w_in (.inl (SqL.of (s5 _ _ (s4 _ _ hf)))) rfl (flat_ints _) ?_
        rw [if_pos rfl, inV_ints]
        have ef : ((dvI d x).take (i + 1)).filter (fun e => !(itF d (asc l) n).contains e) = ((dvI d x).take i).filter (fun e => !(itF d (asc l) n).contains e) ++ (if (!(itF d (asc l) n).contains v) = true then [v] else []) := by
          rw [List.take_add_one, hv]
          exact filter_snoc _ _ _
        cases hb' : (!(itF d (asc l) n).contains v) with
        | false =>
          rw [hb'] at ef
          refine ⟨false, rfl, iteF ?_⟩
          rw [ef, if_neg (by decide), List.append_nil]
          exact ⟨hD, s5⟩
        | true =>
          rw [hb'] at ef
          refine ⟨true, rfl, iteT ?_⟩
          walk_at "go"
          have lm := List.length_filter_le (fun e => !(itF d (asc l) n).contains e) ((dvI d x).take i)
          have l1 := dvI_len d x
          rw [List.length_take] at lm
          refine ⟨_, hD, big_of (by rw [List.length_map]; omega), ?_, fun b o z => ?_⟩
          · rw [upd_same, ef, if_pos rfl, List.map_append]
            rfl
          · rw [upd_ne (ne_of_none z nD)]
            exact s5 _ _ z
      · rw [List.length_map, List.take_length] at hD
        have e1 : itF d (asc l) (n + 1) = itF d (asc l) n ++ (dvI d x).filter fun e => !(itF d (asc l) n).contains e := by
          show itF d (asc l) n ++ (dvI d ((itF d (asc l) n).getD n 0)).filter _ = _
          rw [xd]
        have lm := List.length_filter_le (fun e => !(itF d (asc l) n).contains e) (dvI d x)
        have l1 := dvI_len d x
        refine w_cat (ys := (itF d (asc l) (n + 1)).map V.int) (s5 _ _ (s4 _ _ hf)) hD (by rw [e1, List.map_append]) (by rw [List.length_map, e1, List.length_append]; exact Nat.le_trans (show _ ≤ 100 by omega) (by decide)) fun p6 H6 n6 h6 s6 => ?_
        walk_at "go"
        exact ⟨p6, _, by rw [Int.natCast_succ]; rfl, h6, s3.trans (s4.trans (s5.trans s6))⟩
    · refine ite2 (fun h => absurd (of_decide_eq_true h) (by omega)) fun _ => ?_
      walk_at "go"
      refine ⟨pf, _, rfl, SqL.of hf, by omega, fun ns p6 pm pw n6 => ?_⟩
      have ens : ns = cloS d l := by
        rw [← cloS_asc d l hb, ← g4 (by omega)]
        exact sorted_pick pm pw g2 fun k => by
          rw [List.contains_iff_mem]
          exact ⟨fun z => ⟨g3 k z, z⟩, fun z => z.2⟩
      subst ens
      refine q p6 _ (back s3 n6) upd_same (s3.trans fun b o z => ?_)
      rw [upd_ne (ne_of_none z n6)]
      exact z
end
end Law

set_option Elab.async false
set_option linter.all false
set_option maxRecDepth 100000
set_option maxHeartbeats 4000000
namespace Law
open PySem PySem.Spec PySem.Calls PyProof.Rows L2 KG LamX
local macro_rules | `(tactic| walk_at "1") => `(tactic| first
  | (with_reducible refine w_var rfl ?_) | (with_reducible refine w_c ?_) | (with_reducible refine w_seq ?_) | (with_reducible refine w_asg ?_) | (with_reducible refine w_gname ?_) | (with_reducible refine w_op ?_) | (with_reducible refine w_un ?_)
  | (with_reducible refine w_add ?_) | (with_reducible refine w_sub ?_) | ((with_reducible refine' w_mod ?mo ?_); (case mo => first | assumption | decide | omega)) | (with_reducible refine w_and ?_) | (with_reducible refine w_or ?_) | (with_reducible refine w_xor ?_)
  | (with_reducible refine w_gt ?_) | (with_reducible refine w_lt ?_) | (with_reducible refine w_ge ?_) | (with_reducible refine w_le ?_) | ((with_reducible refine' w_eq ?sc ?_); (case sc => rfl)) | ((with_reducible refine' w_ne ?sc ?_); (case sc => rfl))
  | (with_reducible refine w_ret ?_) | (with_reducible refine w_next ?_) | (with_reducible refine w_ifs ?_) | (with_reducible refine w_ifx ?_) | (with_reducible refine w_test ?_) | (with_reducible refine w_tB ?_) | (with_reducible refine w_bl ?_)
  | ((with_reducible refine' w_ixL ?ixh ?ixa ?_); (case ixh => first | exact SqL.of (by assumption)); (case ixa => first | rfl | skip)) | ((with_reducible refine' w_ixT ?ixh ?ixa ?_); (case ixh => first | exact SqT.of (by assumption)); (case ixa => first | rfl | skip))
  | ((with_reducible refine' w_fld ?_)) | ((with_reducible refine' fld ?fh ?fc ?fn ?fl ?_); (case fh => assumption); (case fc => assumption); (case fn => assumption); (case fl => rfl)) | (with_reducible refine w_sfld ?_)
  | (with_reducible refine Or.inl ⟨_, rfl, ?_⟩) | (with_reducible refine w_gsub ?_) | (with_reducible refine w_andV ?_) | (with_reducible refine w_orV ?_)
  | (with_reducible refine w_nil ?_) | (with_reducible refine w_cons ?_) | (with_reducible refine w_tup ?_) | (with_reducible refine w_lst ?_) | (with_reducible refine w_and2 ?_) | (with_reducible refine w_or2 ?_) | (with_reducible refine w_not ?_) | (with_reducible refine w_cb ?_) | (with_reducible refine w_call ?_) | (with_reducible refine w_par ?_) | (with_reducible refine w_pnil ?_) | (with_reducible refine w_pcons ?_) | (with_reducible refine w_dput ?_) | (with_reducible refine w_dget ?_) | (with_reducible refine w_for ?_) | (with_reducible refine w_itup ?_) | (with_reducible refine w_ilist ?_) | (with_reducible refine w_irng ?_) | (with_reducible refine w_meth ?_) | (with_reducible refine w_make ?_) | (with_reducible refine w_makeK ?_) | (with_reducible refine w_methK ?_) | ((with_reducible refine' mth ?mh ?ml ?_); (case mh => assumption); (case ml => rfl)) | (with_reducible refine w_drop ?_))
local macro_rules | `(tactic| walk_at "go") => `(tactic| ((repeat (walk_at "1")); try dsimp only))
local macro_rules | `(tactic| walk_at "1") => `(tactic| first
  | (with_reducible refine w_notV ?_) | (with_reducible refine w_callK ?_) | (with_reducible refine w_lc ?_) | (with_reducible refine w_chain ?_) | (with_reducible refine w_neg ?_) | ((with_reducible refine' w_shr ?mo ?_); (case mo => first | assumption | omega)))
def opI (r w c : Str) (s : Int) : Int := if c = "r" then rdF r s else if c = "1" then awF w s 1 else awF w s 0
def stepL (q : Bool) (r w d : Str) (l : List Int) (c : Str) : List Int := if q = true then asc (l.map (opI r w c)) else cloS d (asc (l.map (opI r w c)))
def endsL (q : Bool) (r w d : Str) (s : Int) (cs : List Nat) : List Int := cs.foldl (fun l c => stepL q r w d l (one c)) (if q = true then [s] else cloS d [s])
def SW (w : Str) : List (List Int) := if w = "once" then subs else [[], [0], [1], [0, 1]]
def jrow (e : List Int) (G : List (List Int)) : List Int := pick fun k => e.any fun m => (G.getD m.toNat []).contains k
theorem sw_start : ∀ w ∈ WR, ∀ s ∈ stN w, [s] ∈ SW w ∧ ∀ d ∈ DV, cloS d [s] ∈ SW w ∧ clo d s = cloS d [s] := by decide +kernel
theorem sw_mem : ∀ w ∈ WR, ∀ l ∈ SW w, l.length ≤ 4 ∧ (∀ k ∈ l, (k = 0 ∨ k = 1 ∨ (w = "once" ∧ (k = 2 ∨ k = 3)))) ∧ ∀ r ∈ RD, ∀ c ∈ (["0", "1", "r"] : List Str), ∀ k ∈ l.map (opI r w c), 0 ≤ k ∧ k < 4 := by decide +kernel
theorem sw_stepT : ∀ r ∈ RD, ∀ w ∈ WR, ∀ d ∈ DV, ∀ c ∈ (["0", "1", "r"] : List Str), ∀ l ∈ SW w, stepL true r w d l c ∈ SW w ∧ jrow (jrow l (letR r w c)) (betw true w d) = stepL true r w d l c := by decide +kernel
theorem sw_stepF : ∀ r ∈ RD, ∀ w ∈ WR, ∀ d ∈ DV, ∀ c ∈ (["0", "1", "r"] : List Str), ∀ l ∈ SW w, stepL false r w d l c ∈ SW w ∧ jrow (jrow l (letR r w c)) (betw false w d) = stepL false r w d l c := by decide +kernel
theorem in3 {c : Str} (h : c = "0" ∨ c = "1" ∨ c = "r") : c ∈ (["0", "1", "r"] : List Str) := by
  rcases h with rfl | rfl | rfl <;> simp
theorem sw_step {q : Bool} {r w d c : Str} (kd : Kd r w d) (hc : c = "0" ∨ c = "1" ∨ c = "r") {l : List Int} (h : l ∈ SW w) : stepL q r w d l c ∈ SW w ∧ jrow (jrow l (letR r w c)) (betw q w d) = stepL q r w d l c := by
  cases q
  · exact sw_stepF r kd.1 w kd.2.1 d kd.2.2 c (in3 hc) l h
  · exact sw_stepT r kd.1 w kd.2.1 d kd.2.2 c (in3 hc) l h
theorem ends_sw {q : Bool} {r w d : Str} (kd : Kd r w d) : ∀ (cs : List Nat) (l : List Int), (∀ c ∈ cs, c ∈ ("01r" : Str).cps.toList) → l ∈ SW w → cs.foldl (fun l c => stepL q r w d l (one c)) l ∈ SW w
  | [], l, _, h => h
  | c :: cs, l, hc, h => ends_sw kd cs _ (fun x hx => hc x (List.mem_cons_of_mem _ hx)) (sw_step kd (sign_of (hc c List.mem_cons_self)) h).1
theorem start_sw {q : Bool} {r w d : Str} (kd : Kd r w d) {s : Int} (hs : s ∈ stN w) : (if q = true then [s] else cloS d [s]) ∈ SW w := by
  obtain ⟨a, b⟩ := sw_start w kd.2.1 s hs
  split
  · exact a
  · exact (b d kd.2.2).1
theorem rows_fold {q : Bool} {r w d : Str} (kd : Kd r w d) : ∀ (cs : List Nat) (g : Int → List Int), (∀ c ∈ cs, c ∈ ("01r" : Str).cps.toList) → (∀ s ∈ stN w, g s ∈ SW w) →
    cs.foldl (stepR q r w d) ((stN w).map g) = (stN w).map fun s => cs.foldl (fun l c => stepL q r w d l (one c)) (g s)
  | [], g, _, _ => rfl
  | c :: cs, g, hc, hg => by
    have h1 := sign_of (hc c List.mem_cons_self)
    have e : stepR q r w d ((stN w).map g) c = (stN w).map fun s => stepL q r w d (g s) (one c) := by
      unfold stepR joinR
      rw [List.map_map, List.map_map]
      refine List.map_congr_left fun s hs => ?_
      exact (sw_step kd h1 (hg s hs)).2
    rw [List.foldl_cons, e]
    exact rows_fold kd cs (fun s => stepL q r w d (g s) (one c)) (fun x hx => hc x (List.mem_cons_of_mem _ hx)) fun s hs => (sw_step kd h1 (hg s hs)).1
theorem rows_eq {q : Bool} {r w d : Str} (kd : Kd r w d) (cs : List Nat) (hc : ∀ c ∈ cs, c ∈ ("01r" : Str).cps.toList) : ofR q r w d cs = (stN w).map fun s => endsL q r w d s cs := by
  have e : betw q w d = (stN w).map fun s => if q = true then [s] else cloS d [s] := by
    unfold betw
    refine List.map_congr_left fun s hs => ?_
    split
    · rfl
    · exact ((sw_start w kd.2.1 s hs).2 d kd.2.2).2
  unfold ofR
  rw [e]
  exact rows_fold kd cs _ hc fun s hs => start_sw kd hs
def spEnds : Sp := fun vs H Q _ => ∃ (t : Addr) (s : Int) (x r w d : Str) (q : Bool), vs = [.ref t, .int s, .str x, .bl q] ∧ H t = some (.tup [.str r, .str w, .str d]) ∧ Kd r w d ∧ s ∈ stN w ∧ Lets x ∧ ∀ a H', H a = none → H' a = some (.tup ((endsL q r w d s x.cps.toList).map V.int)) → Same H H' → Q (.ref a) H'
theorem ite_join {b : Bool} {ta tb : TE} {σ : L2.St} {H : Hp} {Q : VK} (M : V → Hp → Prop) (a : b = true → ∀ Q : VK, (∀ v H', M v H' → Q v H') → ta σ H Q) (a' : b = false → ∀ Q : VK, (∀ v H', M v H' → Q v H') → tb σ H Q) (h : ∀ v H', M v H' → Q v H') : if b = true then ta σ H Q else tb σ H Q := by
  cases b with
  | true => rw [if_pos rfl]; exact a rfl Q h
  | false => rw [if_neg (by decide)]; exact a' rfl Q h
section
variable {P : Program} {w : World} {K : PySem.W.Frag} {mg : Str → Option Value} {base : Heap} {C CE : Addr}
theorem ok_ends (D : DefAt K mg "_law_ends" s__law_ends ["_law_words_here", "_law_state", "_law_letters_here", "_law_is_quiet"]) (B : B1 mg) (c_law_read : Cal P w K mg base 1 "_law_read" spRdL) (c_law_write : Cal P w K mg base 1 "_law_write" spWrL) (c_law_closed : Cal P w K mg base 2 "_law_closed" (spClosed K)) : Cal P w K mg base 3 "_law_ends" spEnds := by
  refine D.cal (k := 2) sc__law_ends (fun vs H Q E h => ?_) (fun f cdv A outer s0 H vs Q E rm gd h => ?_)
  · obtain ⟨t, s, x, r, wr, d, qt, rfl, _⟩ := h
    rfl
  · obtain ⟨t, s, x, r, wr, d, qt, rfl, ht, kd, hs, lx, q⟩ := h
    refine ⟨_, (pss_cons (ps_asg (pv 0) (pg_tup rfl (pgs_cons (pg_name (i := 4) sc__law_ends.nd rfl (Or.inr rfl)) (pgs_cons (pg_name (i := 5) sc__law_ends.nd rfl (Or.inr rfl)) (pgs_cons (pg_name (i := 6) sc__law_ends.nd rfl (Or.inl rfl)) pgs_nil)))))
    (pss_cons (ps_set (i := 7) sc__law_ends.nd rfl (Or.inl rfl) (pe_ifExp (pt_val (pv 3)) (pe_lst (pa_cons (pv 1) pa_nil)) (pc c_law_closed rm (by decide) gd rfl (pa_cons (pv 6) (pa_cons (pe_lst (pa_cons (pv 1) pa_nil)) pa_nil)))))
    (pss_cons (ps_for PassesOwn.never rfl (pi_str (pv 2)) (pg_name (i := 8) sc__law_ends.nd rfl (Or.inr rfl))
      (pss_mid (ps_if (pt_cmpR op_eq (pv 8) pe_str (nomark _))
        (pss_one (ps_set (i := 7) sc__law_ends.nd rfl (Or.inl rfl) (pe_callB (cr_sortedSet rfl) (by rfl) B.g_sorted (by decide +kernel) (pa_cons (pe_callTy (cr_setI rfl) (by rfl) B.g_set (by decide +kernel) (pa_cons (pe_lc (own := [("_law_one", 9)]) (g := (gName 9)) (by rfl) sc__law_ends.nd (pi_list (pv 7)) (blkOk_by (own := [("_law_one", 9)]) (N := ["_law_words_here", "_law_state", "_law_letters_here", "_law_is_quiet", "_law_reading", "_law_writing", "_law_device", "_law_found", "_law_letter", "_law_one"]) (sc := defScope s__law_ends) (by decide +kernel)) (fun _ _ _ _ _ => (pg_name (i := 9) sc__law_ends.nd rfl (Or.inl rfl))) (fun _ _ _ _ _ => pts_nil) (fun _ _ _ _ _ => (pc c_law_read rm (by decide) gd rfl (pa_cons (pv 4) (pa_cons (pv 9) pa_nil))))) pa_nil)) pa_nil))))
        (pss_one (ps_set (i := 7) sc__law_ends.nd rfl (Or.inl rfl) (pe_callB (cr_sortedSet rfl) (by rfl) B.g_sorted (by decide +kernel) (pa_cons (pe_callTy (cr_setI rfl) (by rfl) B.g_set (by decide +kernel) (pa_cons (pe_lc (own := [("_law_one", 9)]) (g := (gName 9)) (by rfl) sc__law_ends.nd (pi_list (pv 7)) (blkOk_by (own := [("_law_one", 9)]) (N := ["_law_words_here", "_law_state", "_law_letters_here", "_law_is_quiet", "_law_reading", "_law_writing", "_law_device", "_law_found", "_law_letter", "_law_one"]) (sc := defScope s__law_ends) (by decide +kernel)) (fun _ _ _ _ _ => (pg_name (i := 9) sc__law_ends.nd rfl (Or.inl rfl))) (fun _ _ _ _ _ => pts_nil) (fun _ _ _ _ _ => (pc c_law_write rm (by decide) gd rfl (pa_cons (pv 5) (pa_cons (pv 9) (pa_cons (pe_callTy (T := "int") (r := rIntS) cr_intS (by rfl) B.g_int (by decide +kernel) (pa_cons (pv 8) pa_nil)) pa_nil)))))) pa_nil)) pa_nil)))))
      (pss_one (ps_if (pt_not (pt_val (pv 3)))
        (pss_one (ps_set (i := 7) sc__law_ends.nd rfl (Or.inl rfl) (pc c_law_closed rm (by decide) gd rfl (pa_cons (pv 6) (pa_cons (pv 7) pa_nil)))))
        pss_nil))))
    (pss_one (ps_ret (pe_callTy call_tuple_of (by rfl) B.g_tuple (by decide +kernel) (pa_cons (pv 7) pa_nil))))))), ?_⟩
    walk_at "go"
    refine ⟨t, _, rfl, SqT.of ht, rfl, _, _, rfl, _, _, rfl, _, _, rfl, rfl, ?_⟩
    walk_at "go"
    refine ite_join (fun v H1 => ∃ pf, v = .ref pf ∧ H1 pf = some (.lst ((if qt = true then [s] else cloS d [s]).map V.int)) ∧ Same H H1) (fun hq Q' k => ?_) (fun hq Q' k => ?_) ?_
    · subst hq
      walk_at "go"
      refine new (show 1 ≤ sizeLine by decide) fun pf H1 n1 h1 s1 => ?_
      exact k _ _ ⟨pf, rfl, h1, s1⟩
    · subst hq
      walk_at "go"
      refine new (show 1 ≤ sizeLine by decide) fun pf H1 n1 h1 s1 => ?_
      walk_at "go"
      refine ⟨d, pf, [s], rfl, kd.2.2, SqL.of h1, by simp, fun k hk => ?_, fun p H2 np hp s2 => ?_⟩
      · rw [List.mem_singleton.mp hk]
        have := stN_4 wr s hs
        unfold St4 at this
        omega
      · exact k _ _ ⟨p, rfl, hp, s1.trans s2⟩
    rintro v H1 ⟨p0, rfl, hp0, s1⟩
    have f0 : (if qt = true then [s] else cloS d [s]) ∈ SW wr := start_sw kd hs
    generalize hF : (if qt = true then [s] else cloS d [s]) = F0 at hp0 f0
    have eF : endsL qt r wr d s x.cps.toList = x.cps.toList.foldl (fun l c => stepL qt r wr d l (one c)) F0 := by
      unfold endsL
      rw [hF]
    walk_at "go"
    unfold iStr
    walk_at "go"
    refine ⟨x, rfl, ?_⟩
    refine ⟨fun i m σ H' => m = x.cps.size - i ∧ i ≤ x.cps.size ∧ (∃ pf v8 v9, σ = [some (.ref t), some (.int s), some (.str x), some (.bl qt), some (.str r), some (.str wr), some (.str d), some (.ref pf), v8, v9] ∧ H' pf = some (.lst (((x.cps.toList.take i).foldl (fun l c => stepL qt r wr d l (one c)) F0).map V.int))) ∧ Same H H', ⟨_, rfl, Nat.zero_le _, ⟨p0, none, none, rfl, by rw [List.take_zero]; exact hp0⟩, s1⟩, ?_⟩
    rintro i m σ H3 ⟨rfl, hi, ⟨pf, v8, v9, rfl, hpf⟩, s3⟩
    have fi : (x.cps.toList.take i).foldl (fun l c => stepL qt r wr d l (one c)) F0 ∈ SW wr := ends_sw kd _ _ (fun c hc => lx.2 c (List.mem_of_mem_take hc)) f0
    rcases Nat.lt_or_ge i x.cps.size with lt | ge
    · refine .inr ⟨lt, fun σ' H' => (∃ pf v8 v9, σ' = [some (.ref t), some (.int s), some (.str x), some (.bl qt), some (.str r), some (.str wr), some (.str d), some (.ref pf), v8, v9] ∧ H' pf = some (.lst (((x.cps.toList.take (i + 1)).foldl (fun l c => stepL qt r wr d l (one c)) F0).map V.int))) ∧ Same H H', fun σ' H' ⟨e, s⟩ => ⟨_, by omega, rfl, lt, e, s⟩, fun y H4 ⟨eH, c, ec, ey⟩ => ?_⟩
      subst ey
      subst eH
      have ecl : x.cps.toList[i]? = some c := by rw [Array.getElem?_toList]; exact ec
      have hcm := lx.2 c (List.mem_of_getElem? ecl)
      have e1 : x.cps.toList.take (i + 1) = x.cps.toList.take i ++ [c] := by
        rw [List.take_add_one, ecl]
        rfl
      rw [e1, List.foldl_append]
      generalize (x.cps.toList.take i).foldl (fun l c => stepL qt r wr d l (one c)) F0 = l at hpf fi
      have sg := sign_of hcm
      simp only [List.foldl_cons, List.foldl_nil]
      unfold one at sg ⊢
      generalize ({ cps := #[c] } : Str) = cc at sg ⊢
      obtain ⟨l4, lm, lb⟩ := sw_mem wr kd.2.1 l fi
      have l5 := lb r kd.1 cc (in3 sg)
      walk_at "go"
      refine w_mid (fun σ' H' => ∃ pf v9, σ' = [some (.ref t), some (.int s), some (.str x), some (.bl qt), some (.str r), some (.str wr), some (.str d), some (.ref pf), some (.str cc), v9] ∧ H' pf = some (.lst ((asc (l.map (opI r wr cc))).map V.int)) ∧ Same H H') ?_ ?_
      · have turn : ∀ {D : Addr} {i : Nat} {m v : Int} {H1 : Hp}, H4 D = none → H1 D = some (.lst (((l.take i).map (opI r wr cc)).map V.int)) → Same H4 H1 → l[i]? = some m → opI r wr cc m = v → ∃ acc, H1 D = some (.lst acc) ∧ acc.length < sizeLine ∧ upd H1 D (.lst (acc ++ [.int v])) D = some (.lst (((l.take (i + 1)).map (opI r wr cc)).map V.int)) ∧ Same H4 (upd H1 D (.lst (acc ++ [.int v]))) := fun {D i m v H1} nD hD s hm e => by
          refine ⟨_, hD, big_of (by rw [List.length_map, List.length_map, List.length_take]; omega), ?_, fun b o z => ?_⟩
          · rw [upd_same, List.take_add_one, hm, List.map_append, List.map_append, ← e]
            rfl
          · rw [upd_ne (ne_of_none z nD)]
            exact s _ _ z
        rcases sg with rfl | rfl | rfl
        · walk_at "go"
          refine ite2 (fun h => absurd h (by decide)) fun _ => ?_
          walk_at "go"
          refine over_l (SqL.of hpf) ?_
          intro D nD
          have zD : Same H4 (upd H4 D (.lst [])) := fun b o e => by
            rw [upd_ne (ne_of_none e nD)]
            exact e
          refine lc_list (K := K) (a := pf) (xs := l.map V.int) (fun i H' => H' D = some (.lst (((l.take i).map (opI r wr "0")).map V.int)) ∧ Same H4 H') ⟨upd_same, zD⟩ (fun i H' _ ⟨_, s⟩ => SqL.of (s _ _ hpf)) (fun i y H5 hy ⟨hD, s5⟩ => ?_) (fun H5 ⟨hD, s5⟩ => ?_)
          · obtain ⟨m, hm, rfl⟩ := ints_at hy
            walk_at "go"
            refine ⟨rfl, ?_⟩
            try unfold tYes
            refine iteT ?_
            walk_at "go"
            refine ⟨"0", 0, rfl, by decide +kernel, by decide, ?_⟩
            walk_at "go"
            refine ⟨wr, m, 0, rfl, kd.2.1, .inl rfl, fun H6 s6 => ?_⟩
            walk_at "go"
            exact turn nD (s6 _ _ hD) (s5.trans s6) hm (by
              show opI r wr "0" m = _
              unfold opI
              rw [if_neg (by decide), if_neg (by decide)]
              exact wr_eq kd.2.1 (lm m (List.mem_of_getElem? hm)) (.inl rfl))
          · rw [List.length_map, List.take_length] at hD
            walk_at "go"
            refine ⟨D, _, rfl, SqL.of hD, by rw [List.length_map]; omega, fun aS c na hc => ?_⟩
            have x1 : Same H5 (upd H5 aS (SetO w aS (fun j => decide (j ∈ l.map (opI r wr "0"))) c)) := fun b o e => by
              rw [upd_ne (ne_of_none e na)]
              exact e
            have i1 : upd H5 aS (SetO w aS (fun j => decide (j ∈ l.map (opI r wr "0"))) c) aS = some (SetO w aS (fun j => decide (j ∈ l.map (opI r wr "0"))) c) := upd_same
            show _root_.L2.tNil _ (upd H5 aS (SetO w aS (fun j => decide (j ∈ l.map (opI r wr "0"))) c)) _
            generalize upd H5 aS (SetO w aS (fun j => decide (j ∈ l.map (opI r wr "0"))) c) = H6 at x1 i1
            walk_at "go"
            have cl : c ≤ l.length := by rw [List.length_map] at hc; exact hc
            refine ⟨aS, _, c, rfl, i1, by omega, fun ns p pw hm _ np => ?_⟩
            have ens : ns = asc (l.map (opI r wr "0")) := asc_pick pw hm fun k => by
              rw [decide_eq_true_eq, List.contains_iff_mem]
              exact ⟨fun z => ⟨l5 k z, z⟩, fun z => z.2⟩
            subst ens
            have x2 : Same H6 (upd H6 p (.lst ((asc (l.map (opI r wr "0"))).map V.int))) := fun b o e => by
              rw [upd_ne (ne_of_none e np)]
              exact e
            walk_at "go"
            exact ⟨p, _, rfl, upd_same, s3.trans (s5.trans (x1.trans x2))⟩
        · walk_at "go"
          refine ite2 (fun h => absurd h (by decide)) fun _ => ?_
          walk_at "go"
          refine over_l (SqL.of hpf) ?_
          intro D nD
          have zD : Same H4 (upd H4 D (.lst [])) := fun b o e => by
            rw [upd_ne (ne_of_none e nD)]
            exact e
          refine lc_list (K := K) (a := pf) (xs := l.map V.int) (fun i H' => H' D = some (.lst (((l.take i).map (opI r wr "1")).map V.int)) ∧ Same H4 H') ⟨upd_same, zD⟩ (fun i H' _ ⟨_, s⟩ => SqL.of (s _ _ hpf)) (fun i y H5 hy ⟨hD, s5⟩ => ?_) (fun H5 ⟨hD, s5⟩ => ?_)
          · obtain ⟨m, hm, rfl⟩ := ints_at hy
            walk_at "go"
            refine ⟨rfl, ?_⟩
            try unfold tYes
            refine iteT ?_
            walk_at "go"
            refine ⟨"1", 1, rfl, by decide +kernel, by decide, ?_⟩
            walk_at "go"
            refine ⟨wr, m, 1, rfl, kd.2.1, .inr rfl, fun H6 s6 => ?_⟩
            walk_at "go"
            exact turn nD (s6 _ _ hD) (s5.trans s6) hm (by
              show opI r wr "1" m = _
              unfold opI
              rw [if_neg (by decide), if_pos (by decide)]
              exact wr_eq kd.2.1 (lm m (List.mem_of_getElem? hm)) (.inr rfl))
          · rw [List.length_map, List.take_length] at hD
            walk_at "go"
            refine ⟨D, _, rfl, SqL.of hD, by rw [List.length_map]; omega, fun aS c na hc => ?_⟩
            have x1 : Same H5 (upd H5 aS (SetO w aS (fun j => decide (j ∈ l.map (opI r wr "1"))) c)) := fun b o e => by
              rw [upd_ne (ne_of_none e na)]
              exact e
            have i1 : upd H5 aS (SetO w aS (fun j => decide (j ∈ l.map (opI r wr "1"))) c) aS = some (SetO w aS (fun j => decide (j ∈ l.map (opI r wr "1"))) c) := upd_same
            show _root_.L2.tNil _ (upd H5 aS (SetO w aS (fun j => decide (j ∈ l.map (opI r wr "1"))) c)) _
            generalize upd H5 aS (SetO w aS (fun j => decide (j ∈ l.map (opI r wr "1"))) c) = H6 at x1 i1
            walk_at "go"
            have cl : c ≤ l.length := by rw [List.length_map] at hc; exact hc
            refine ⟨aS, _, c, rfl, i1, by omega, fun ns p pw hm _ np => ?_⟩
            have ens : ns = asc (l.map (opI r wr "1")) := asc_pick pw hm fun k => by
              rw [decide_eq_true_eq, List.contains_iff_mem]
              exact ⟨fun z => ⟨l5 k z, z⟩, fun z => z.2⟩
            subst ens
            have x2 : Same H6 (upd H6 p (.lst ((asc (l.map (opI r wr "1"))).map V.int))) := fun b o e => by
              rw [upd_ne (ne_of_none e np)]
              exact e
            walk_at "go"
            exact ⟨p, _, rfl, upd_same, s3.trans (s5.trans (x1.trans x2))⟩
        · walk_at "go"
          refine ite2 (fun _ => ?_) fun h => absurd (by decide) h
          walk_at "go"
          refine over_l (SqL.of hpf) ?_
          intro D nD
          have zD : Same H4 (upd H4 D (.lst [])) := fun b o e => by
            rw [upd_ne (ne_of_none e nD)]
            exact e
          refine lc_list (K := K) (a := pf) (xs := l.map V.int) (fun i H' => H' D = some (.lst (((l.take i).map (opI r wr "r")).map V.int)) ∧ Same H4 H') ⟨upd_same, zD⟩ (fun i H' _ ⟨_, s⟩ => SqL.of (s _ _ hpf)) (fun i y H5 hy ⟨hD, s5⟩ => ?_) (fun H5 ⟨hD, s5⟩ => ?_)
          · obtain ⟨m, hm, rfl⟩ := ints_at hy
            walk_at "go"
            refine ⟨rfl, ?_⟩
            try unfold tYes
            refine iteT ?_
            walk_at "go"
            refine ⟨r, m, rfl, ?_⟩
            walk_at "go"
            exact turn nD hD s5 hm (by
              show opI r wr "r" m = _
              unfold opI
              rw [if_pos rfl]
              exact rd_eq (St.four (lm m (List.mem_of_getElem? hm))))
          · rw [List.length_map, List.take_length] at hD
            walk_at "go"
            refine ⟨D, _, rfl, SqL.of hD, by rw [List.length_map]; omega, fun aS c na hc => ?_⟩
            have x1 : Same H5 (upd H5 aS (SetO w aS (fun j => decide (j ∈ l.map (opI r wr "r"))) c)) := fun b o e => by
              rw [upd_ne (ne_of_none e na)]
              exact e
            have i1 : upd H5 aS (SetO w aS (fun j => decide (j ∈ l.map (opI r wr "r"))) c) aS = some (SetO w aS (fun j => decide (j ∈ l.map (opI r wr "r"))) c) := upd_same
            show _root_.L2.tNil _ (upd H5 aS (SetO w aS (fun j => decide (j ∈ l.map (opI r wr "r"))) c)) _
            generalize upd H5 aS (SetO w aS (fun j => decide (j ∈ l.map (opI r wr "r"))) c) = H6 at x1 i1
            walk_at "go"
            have cl : c ≤ l.length := by rw [List.length_map] at hc; exact hc
            refine ⟨aS, _, c, rfl, i1, by omega, fun ns p pw hm _ np => ?_⟩
            have ens : ns = asc (l.map (opI r wr "r")) := asc_pick pw hm fun k => by
              rw [decide_eq_true_eq, List.contains_iff_mem]
              exact ⟨fun z => ⟨l5 k z, z⟩, fun z => z.2⟩
            subst ens
            have x2 : Same H6 (upd H6 p (.lst ((asc (l.map (opI r wr "r"))).map V.int))) := fun b o e => by
              rw [upd_ne (ne_of_none e np)]
              exact e
            walk_at "go"
            exact ⟨p, _, rfl, upd_same, s3.trans (s5.trans (x1.trans x2))⟩
      · rintro σ' H5 ⟨p5, w9, rfl, h5, s5⟩
        walk_at "go"
        have aln : (asc (l.map (opI r wr cc))).length ≤ 8 := by
          unfold asc pick S4
          exact Nat.le_trans (List.length_filter_le _ _) (by decide)
        have amb : ∀ k ∈ asc (l.map (opI r wr cc)), 0 ≤ k ∧ k < 4 := fun k hk => by
          unfold asc at hk
          rw [pick_mem] at hk
          exact hk.1
        cases qt with
        | true =>
          refine iteF ?_
          exact ⟨⟨p5, _, _, rfl, h5⟩, s5⟩
        | false =>
          refine iteT ?_
          walk_at "go"
          refine ⟨d, p5, _, rfl, kd.2.2, SqL.of h5, aln, amb, fun p H6 np hp s6 => ?_⟩
          walk_at "go"
          exact ⟨⟨p, _, _, rfl, hp⟩, s5.trans s6⟩
    · obtain rfl : i = x.cps.size := by omega
      refine .inl ⟨Nat.le_refl _, ?_⟩
      have ea : x.cps.toList.take x.cps.size = x.cps.toList := by rw [← Array.length_toList, List.take_length]
      rw [ea, ← eF] at hpf
      walk_at "go"
      refine ⟨pf, _, rfl, .inl ⟨SqL.of hpf, fun l nl => ?_⟩⟩
      exact q l _ (back s3 nl) upd_same (s3.trans fun b u z => by
        rw [upd_ne (ne_of_none z nl)]
        exact z)
end
end Law

set_option Elab.async false
set_option linter.all false
set_option maxRecDepth 100000
set_option maxHeartbeats 4000000
namespace Law
open PySem PySem.Spec PySem.Calls PyProof.Rows L2 KG LamX
local macro_rules | `(tactic| walk_at "1") => `(tactic| first
  | (with_reducible refine w_var rfl ?_) | (with_reducible refine w_c ?_) | (with_reducible refine w_seq ?_) | (with_reducible refine w_asg ?_) | (with_reducible refine w_gname ?_) | (with_reducible refine w_op ?_) | (with_reducible refine w_un ?_)
  | (with_reducible refine w_add ?_) | (with_reducible refine w_sub ?_) | ((with_reducible refine' w_mod ?mo ?_); (case mo => first | assumption | decide | omega)) | (with_reducible refine w_and ?_) | (with_reducible refine w_or ?_) | (with_reducible refine w_xor ?_)
  | (with_reducible refine w_gt ?_) | (with_reducible refine w_lt ?_) | (with_reducible refine w_ge ?_) | (with_reducible refine w_le ?_) | ((with_reducible refine' w_eq ?sc ?_); (case sc => rfl)) | ((with_reducible refine' w_ne ?sc ?_); (case sc => rfl))
  | (with_reducible refine w_ret ?_) | (with_reducible refine w_next ?_) | (with_reducible refine w_ifs ?_) | (with_reducible refine w_ifx ?_) | (with_reducible refine w_test ?_) | (with_reducible refine w_tB ?_) | (with_reducible refine w_bl ?_)
  | ((with_reducible refine' w_ixL ?ixh ?ixa ?_); (case ixh => first | exact SqL.of (by assumption)); (case ixa => first | rfl | skip)) | ((with_reducible refine' w_ixT ?ixh ?ixa ?_); (case ixh => first | exact SqT.of (by assumption)); (case ixa => first | rfl | skip))
  | ((with_reducible refine' w_fld ?_)) | ((with_reducible refine' fld ?fh ?fc ?fn ?fl ?_); (case fh => assumption); (case fc => assumption); (case fn => assumption); (case fl => rfl)) | (with_reducible refine w_sfld ?_)
  | (with_reducible refine Or.inl ⟨_, rfl, ?_⟩) | (with_reducible refine w_gsub ?_) | (with_reducible refine w_andV ?_) | (with_reducible refine w_orV ?_)
  | (with_reducible refine w_nil ?_) | (with_reducible refine w_cons ?_) | (with_reducible refine w_tup ?_) | (with_reducible refine w_lst ?_) | (with_reducible refine w_and2 ?_) | (with_reducible refine w_or2 ?_) | (with_reducible refine w_not ?_) | (with_reducible refine w_cb ?_) | (with_reducible refine w_call ?_) | (with_reducible refine w_par ?_) | (with_reducible refine w_pnil ?_) | (with_reducible refine w_pcons ?_) | (with_reducible refine w_dput ?_) | (with_reducible refine w_dget ?_) | (with_reducible refine w_for ?_) | (with_reducible refine w_itup ?_) | (with_reducible refine w_ilist ?_) | (with_reducible refine w_irng ?_) | (with_reducible refine w_meth ?_) | (with_reducible refine w_make ?_) | (with_reducible refine w_makeK ?_) | (with_reducible refine w_methK ?_) | ((with_reducible refine' mth ?mh ?ml ?_); (case mh => assumption); (case ml => rfl)) | (with_reducible refine w_drop ?_))
local macro_rules | `(tactic| walk_at "go") => `(tactic| ((repeat (walk_at "1")); try dsimp only))
local macro_rules | `(tactic| walk_at "1") => `(tactic| first
  | (with_reducible refine w_notV ?_) | (with_reducible refine w_callK ?_) | (with_reducible refine w_lc ?_) | (with_reducible refine w_chain ?_) | (with_reducible refine w_neg ?_) | ((with_reducible refine' w_shr ?mo ?_); (case mo => first | assumption | omega)))
def spRows : Sp := fun vs H Q _ => ∃ (t : Addr) (x r w d : Str) (q : Bool), vs = [.ref t, .str x, .bl q] ∧ H t = some (.tup [.str r, .str w, .str d]) ∧ Kd r w d ∧ Lets x ∧ ∀ a H', H a = none → RowsAt H' a (ofR q r w d x.cps.toList) → Same H H' → Q (.ref a) H'
def spTold (C CE : Addr) : Sp := fun vs H Q _ => ∃ (e k t : Addr) (r w d : Str) (F : List (List Int)), vs = [.ref e, .ref t] ∧ H t = some (.tup [.str r, .str w, .str d]) ∧ EffAt C CE H e k r w d F ∧ F.length = (stN w).length ∧ ∀ a H', H a = none → RowsAt H' a F → Same H H' → Q (.ref a) H'
section
variable {P : Program} {w : World} {K : PySem.W.Frag} {mg : Str → Option Value} {base : Heap} {C CE : Addr}
theorem ok_rows (D : DefAt K mg "_law_rows" s__law_rows ["_law_words_here", "_law_letters_here", "_law_is_quiet"]) (B : B1 mg) (c_law_ends : Cal P w K mg base 3 "_law_ends" spEnds) (c_law_states : Cal P w K mg base 1 "_law_states" spStates) : Cal P w K mg base 4 "_law_rows" spRows := by
  refine D.cal (k := 3) sc__law_rows (fun vs H Q E h => ?_) (fun f cdv A outer s0 H vs Q E rm gd h => ?_)
  · obtain ⟨t, x, r, wr, d, qt, rfl, _⟩ := h
    rfl
  · obtain ⟨t, x, r, wr, d, qt, rfl, ht, kd, lx, q⟩ := h
    refine ⟨_, (pss_one (ps_ret (pe_callTy call_tuple_of (by rfl) B.g_tuple (by decide +kernel) (pa_cons (pe_lc (own := [("_law_state", 3)]) (g := (gName 3)) (by rfl) sc__law_rows.nd (pi_tup (pc c_law_states rm (by decide) gd rfl (pa_cons (pv 0) pa_nil))) (blkOk_by (own := [("_law_state", 3)]) (N := ["_law_words_here", "_law_letters_here", "_law_is_quiet", "_law_state"]) (sc := defScope s__law_rows) (by decide +kernel)) (fun _ _ _ _ _ => (pg_name (i := 3) sc__law_rows.nd rfl (Or.inl rfl))) (fun _ _ _ _ _ => pts_nil) (fun _ _ _ _ _ => (pc c_law_ends rm (by decide) gd rfl (pa_cons (pv 0) (pa_cons (pv 3) (pa_cons (pv 1) (pa_cons (pv 2) pa_nil))))))) pa_nil)))), ?_⟩
    walk_at "go"
    refine ⟨t, r, wr, d, rfl, ht, fun t1 H1 n1 h1 s1 => ?_⟩
    refine over_t (SqT.of h1) ?_
    intro D nD
    have zD : Same H1 (upd H1 D (.lst [])) := fun b u e => by
      rw [upd_ne (ne_of_none e nD)]
      exact e
    refine lc_tup (K := K) (a := t1) (xs := (stN wr).map V.int) (fun i H' => RowsL H' D (((stN wr).take i).map fun s => endsL qt r wr d s x.cps.toList) ∧ Same H1 H') ⟨.nil upd_same, zD⟩ (fun i H' _ ⟨_, s⟩ => SqT.of (s _ _ h1)) (fun i y H2 hy ⟨hD, s2⟩ => ?_) (fun H2 ⟨hD, s2⟩ => ?_)
    · obtain ⟨s, hs, rfl⟩ := ints_at hy
      walk_at "go"
      refine ⟨rfl, ?_⟩
      try unfold tYes
      refine iteT ?_
      walk_at "go"
      refine ⟨t, s, x, r, wr, d, qt, rfl, s2 _ _ (s1 _ _ ht), kd, List.mem_of_getElem? hs, lx, fun a H3 n3 h3 s3 => ?_⟩
      obtain ⟨acc, g1, g2, g3⟩ := (hD.same s3).snoc (row := endsL qt r wr d s x.cps.toList) h3
      have lt := stN_len wr
      rw [List.length_map, List.length_take] at g2
      refine ⟨acc, g1, big_of (by omega), by rw [map_snoc _ hs]; exact g3, fun b u z => ?_⟩
      rw [upd_ne (ne_of_none z nD)]
      exact s3 _ _ (s2 _ _ z)
    · rw [List.length_map, List.take_length] at hD
      walk_at "go"
      obtain ⟨xs, hx⟩ := hD.at_
      refine ⟨D, xs, rfl, .inl ⟨SqL.of hx, fun l nl => ?_⟩⟩
      obtain ⟨xs', hx', _, h3⟩ := hD.tup nl
      rw [hx] at hx'
      cases hx'
      have s12 := s1.trans s2
      exact q l _ (back s12 nl) (by rw [rows_eq kd _ lx.2]; exact h3) (s12.trans fun b u z => by
        rw [upd_ne (ne_of_none z nl)]
        exact z)
theorem ok_told (D : DefAt K mg "_law_told" s__law_told ["_law_effect", "_law_words_here"]) (B : B1 mg) (c_law_states : Cal P w K mg base 1 "_law_states" spStates) {fEC : Addr} {fdEC : FuncData}
    (eC : PySem.W.findIn K (.ref CE) "__call__" = some (some (.ref fEC))) (eF : PySem.W.isFn K (.ref fEC) = true) (eN : PySem.W.fnIn K fEC = true) (FEC : Gd P w K mg base CX0 1 fEC fdEC ["self", "state"] (spECall C CE)) (bEC : Binds K fdEC ["self", "state"] []) : Cal P w K mg base 2 "_law_told" (spTold C CE) := by
  refine D.cal (k := 1) sc__law_told (fun vs H Q E h => ?_) (fun f cdv A outer s0 H vs Q E rm gd h => ?_)
  · obtain ⟨e, k, t, r, wr, d, F, rfl, _⟩ := h
    rfl
  · obtain ⟨e, k, t, r, wr, d, F, rfl, ht, he, hF, q⟩ := h
    refine ⟨_, (pss_one (ps_ret (pe_callTy call_tuple_of (by rfl) B.g_tuple (by decide +kernel) (pa_cons (pe_lc (own := [("_law_state", 2)]) (g := (gName 2)) (by rfl) sc__law_told.nd (pi_tup (pc c_law_states rm (by decide) gd rfl (pa_cons (pv 1) pa_nil))) (blkOk_by (own := [("_law_state", 2)]) (N := ["_law_effect", "_law_words_here", "_law_state"]) (sc := defScope s__law_told) (by decide +kernel)) (fun _ _ _ _ _ => (pg_name (i := 2) sc__law_told.nd rfl (Or.inl rfl))) (fun _ _ _ _ _ => pts_nil) (fun _ _ _ _ _ => (show PE _ _ (tOwnC CE (spECall C CE) E0 0 (tCons (tVar 2) tNil)) from pe_ownC eC eF eN FEC (rm.mono (by decide)) gd bEC pass0 (pv 0) (pa_cons (pv 2) pa_nil)))) pa_nil)))), ?_⟩
    walk_at "go"
    refine ⟨t, r, wr, d, rfl, ht, fun t1 H1 n1 h1 s1 => ?_⟩
    refine over_t (SqT.of h1) ?_
    intro D nD
    have zD : Same H1 (upd H1 D (.lst [])) := fun b u e => by
      rw [upd_ne (ne_of_none e nD)]
      exact e
    refine lc_tup (K := K) (a := t1) (xs := (stN wr).map V.int) (fun i H' => RowsL H' D (F.take i) ∧ Same H1 H') ⟨.nil upd_same, zD⟩ (fun i H' _ ⟨_, s⟩ => SqT.of (s _ _ h1)) (fun i y H2 hy ⟨hD, s2⟩ => ?_) (fun H2 ⟨hD, s2⟩ => ?_)
    · obtain ⟨s, hs, rfl⟩ := ints_at hy
      obtain rfl := stN_at hs
      walk_at "go"
      refine ⟨rfl, ?_⟩
      try unfold tYes
      refine iteT ?_
      have he2 := he.sm (s1.trans s2)
      have hi : i < F.length := by
        have := (List.getElem?_eq_some_iff.mp hs).1
        omega
      refine ⟨e, rfl, ?_⟩
      walk_at "go"
      obtain ⟨dx, tt, g1, _⟩ := id he2
      refine ⟨dx, _, g1, e, k, r, wr, d, F, i, F[i], rfl, he2, List.getElem?_eq_getElem hi, fun a ha => ?_⟩
      obtain ⟨acc, j1, j2, j3⟩ := hD.snoc (row := F[i]) ha
      have lt := stN_len wr
      rw [List.length_take] at j2
      refine ⟨acc, j1, big_of (by omega), by rw [List.take_add_one, List.getElem?_eq_getElem hi]; exact j3, fun b u z => ?_⟩
      rw [upd_ne (ne_of_none z nD)]
      exact s2 _ _ z
    · walk_at "go"
      obtain ⟨xs, hx⟩ := hD.at_
      refine ⟨D, xs, rfl, .inl ⟨SqL.of hx, fun l nl => ?_⟩⟩
      obtain ⟨xs', hx', _, h3⟩ := hD.tup nl
      rw [hx] at hx'
      cases hx'
      have s12 := s1.trans s2
      exact q l _ (back s12 nl) (by rw [List.length_map, ← hF, List.take_length] at h3; exact h3) (s12.trans fun b u z => by
        rw [upd_ne (ne_of_none z nl)]
        exact z)
end
end Law

set_option Elab.async false
set_option linter.all false
set_option maxRecDepth 100000
set_option maxHeartbeats 3200000
/-! KC3: set(t) of a tuple of whole numbers, as a value. -/
namespace KG
open PySem PySem.Spec PySem.Calls PyProof.Rows L2
section
variable {P : Program} {w : World} {A : Around} {E : Value → Shared → Prop} {s : Shared}
/-- the filling, from the tuple's iterator -/
theorem fill_fromT {B : Around} {l d : Addr} {items : Array Value} {ns : List Int} {R : Result → Shared → Prop} (hB : B.handled = none) (hit : IntsAre items.toList ns) (hb : ns.length + 1 < scanBound) (hl : s.heap.IsTuple l items)
    (hd : s.heap.get? d = some (set0 w)) (hne : d ≠ l) (h : ∀ s', Filled w s d ns s' → R (.ok (.ret .none)) s') :
    codeAny (model P w) B (.builtin "set.update.loop" ⟨[.ref d, .ref s.heap.objs.size], []⟩) R { s with heap := s.heap.push { cls := .type "tuple_iterator", data := .fields #[.ref l, .int 0 0] } } := by
  have en : items.size = ns.length := by
    have q := IntsAre.length hit
    rwa [Array.length_toList] at q
  obtain ⟨ol, hol, hol2⟩ := id hl
  have lt1 : l < s.heap.objs.size := Heap.lt_size hol
  have lt2 : d < s.heap.objs.size := Heap.lt_size hd
  have at_i : ∀ (i : Nat) (v : Value), items[i]? = some v → ∃ k t, ns[i]? = some k ∧ v = .int k t := fun i v hv => by
    have hi : i < ns.length := by rw [← en]; exact (Array.getElem?_eq_some_iff.mp hv).1
    obtain ⟨t, e⟩ := PyProof.Rows.IntsAre.int_at hit i v (by rw [Array.getElem?_toList]; exact hv)
    refine ⟨ns[i], t, List.getElem?_eq_getElem hi, ?_⟩
    rw [e, List.getD_eq_getElem?_getD, List.getElem?_eq_getElem hi] <;> rfl
  refine set_update_ints ((Walks.tuple (by simp [hB]) s.heap.objs.size l (Nat.ne_of_lt lt1) items).toS) d (by simp; exact ⟨Nat.ne_of_lt lt2, hne⟩) ns en hb at_i items.size 0 _ (by omega) (Nat.zero_le _)
    ⟨⟨_, Heap.get?_push_size _ rfl, rfl, rfl⟩, hl.push _⟩ ⟨0, Nat.le_refl 0, setR_new_at (Heap.get?_push_of_some _ hd)⟩ fun s' c m hc R1 => h s' ?_
  obtain ⟨h', g', d', tk, os'⟩ := s'
  obtain rfl : g' = s.gens := m.gens
  obtain rfl : d' = s.drawn := m.drawn
  obtain rfl : os' = s.os := m.os
  refine ⟨h', tk, c, rfl, R1, en ▸ hc, fun b o nb e => m.heap b o ?_ (Heap.get?_push_of_some _ e)⟩
  have := Heap.lt_size e
  simp only [List.mem_cons, List.not_mem_nil, or_false, not_or]
  exact ⟨nb, Nat.ne_of_lt this⟩
/-- set.__init__ on the fresh set -/
theorem init_tup {l : Addr} {items : Array Value} {ns : List Int} (hh : A.handled = none) (hit : IntsAre items.toList ns) (hb : ns.length + 1 < scanBound) (hl : s.heap.IsTuple l items) :
    codeAny (model P w) A (.call (.builtin "set.__init__") ⟨[.ref s.heap.objs.size, .ref l], []⟩) (wants (fun r s' => r = .none ∧ Filled w (laid0 w s) s.heap.objs.size ns s') E) (laid0 w s) := by
  have hS : (laid0 w s).heap.get? s.heap.objs.size = some (set0 w) := Heap.get?_push_size _ rfl
  have hT : (laid0 w s).TypeIs (.ref s.heap.objs.size) "set" := ⟨_, hS, rfl⟩
  refine codeAny_call_builtin F.called_set.init.plain F.entry_set_init (check_set_init_1 hT ?_)
  have hl1 : (laid0 w s).heap.IsTuple l items := hl.push _
  obtain ⟨⟨ocls, odict, odata, osl⟩, hol, hcl, nl, hdl⟩ := id hl
  simp only at hcl hdl
  subst hcl hdl
  have hol' := Heap.get?_push_of_some (set0 w) hol
  have e1 := F.sub_tuple_set
  have e2 := F.sub_tuple_frozenset
  have e3 : (Value.type "tuple" == Value.type "dict") = false := by decide
  have lt1 : l < s.heap.objs.size := Heap.lt_size hol
  unfold Builtin.«set.__init__» noKeywords Builtin.Frozenset.updateFrom
  generalize hPI : pyIter = PI
  wp_walk
  subst hPI
  refine wpAny_pyIter_tuple hl1 ?_
  refine wpAny_bind (wpAny_runValue (fill_fromT (s := laid0 w s) (by simp [hh]) hit hb hl1 hS (Nat.ne_of_gt lt1) fun s' f => ?_))
  show wpAny _ _ _ _ _ _
  refine wpAny_pure ?_
  show wpAny _ _ (ret Value.none) _ _ _
  exact wpAny_pure ⟨rfl, f⟩
/-- set(xs) -/
theorem set_tup {l : Addr} {items : Array Value} {ns : List Int} {Q : Value → Shared → Prop} (hh : A.handled = none) (hit : IntsAre items.toList ns) (hb : ns.length + 1 < scanBound) (hl : s.heap.IsTuple l items)
    (h : ∀ s', Filled w (laid0 w s) s.heap.objs.size ns s' → Q (.ref s.heap.objs.size) s') : wpAny (model P w) A (call (.type "set") [.ref l]) Q E s := by
  obtain ⟨c, tl, hmro⟩ := F.called_set.mro
  have k1 := F.called_set.made
  have k2 := F.called_set.sub
  have k3 := F.called_set.notType
  have k4 := F.called_set.canCreate
  have k5 := F.typeCall_set_1 (.ref l)
  refine wpAny_call (codeAny_of_tree ?_)
  show wpAny _ _ (callAny (.type "set") _) _ _ _
  refine wpAny_pure ⟨Code.quiet_builtin _ (by decide +kernel), codeAny_builtin F.entry_type_call ?_⟩
  rw [Around.under_plain (weight_type_call_type "set" [.ref l] []) rfl]
  repeat (any_goals (first | assumption | wp_step))
  refine codeAny_mono (code_set_led1 (.ref l) (E := E) (Q₁ := fun obj s₁ => obj = .ref s.heap.objs.size ∧ s₁ = laid0 w s) ⟨rfl, rfl⟩) fun r s₁ hr => ?_
  rcases r with e | (_ | _ | _ | obj)
  · exact hr
  iterate 3 exact hr.elim
  · obtain ⟨rfl, rfl⟩ := hr
    have hS : (laid0 w s).heap.get? s.heap.objs.size = some (set0 w) := Heap.get?_push_size _ rfl
    have hT : (laid0 w s).TypeIs (.ref s.heap.objs.size) "set" := ⟨_, hS, rfl⟩
    have k6 := F.called_set.init.lookup
    have k7 := F.called_set.init.bind (.ref s.heap.objs.size)
    repeat (any_goals (first | assumption | wp_step))
    refine codeAny_mono (init_tup (E := E) (by simp [hh]) hit hb hl) fun r₂ s₂ hr₂ => ?_
    rcases r₂ with e | (_ | _ | _ | r)
    · exact hr₂
    iterate 3 exact hr₂.elim
    · obtain ⟨rfl, f⟩ := hr₂
      repeat (any_goals (first | assumption | wp_step))
      exact h _ f
end
/-- set(xs), xs a tuple of whole numbers -/
def rSetT (K : PySem.W.Frag) (w : World) : List V → Hp → VK → Prop := fun xs H Q => ∃ (l : Addr) (ns : List Int), xs = [.ref l] ∧ SqT K H l (ns.map V.int) ∧ ns.length ≤ 1000 ∧ ∀ (a : Addr) (c : Nat), H a = none → c ≤ ns.length → Q (.ref a) (upd H a (SetO w a (fun j => decide (j ∈ ns)) c))
theorem cr_setT {X : Cx} (hc : X.calm = true) : CallR X (.type "set") (rSetT X.K X.w) := by
  intro pins s σ H xs us Q I r h
  obtain ⟨l, ns, rfl, hl, hb, q⟩ := h
  rw [Vals.ref1 r]
  obtain ⟨its, rv, p, hz⟩ := I.tuple hl
  have fr : H s.heap.objs.size = none := I.hok.fresh (Nat.le_refl _)
  refine set_tup (I.ok.hd hc) (ns := ns) (items := its.toArray) (by simpa using RZ.intsAre_vals rv) (by unfold scanBound; omega) p fun s' ⟨h', tk, c, e, R, hcl, k⟩ => ?_
  subst e
  have kp : ∀ b o, s.heap.get? b = some o → h'.get? b = some o := fun b o e => k b o (Nat.ne_of_lt (Heap.lt_size e)) (Heap.get?_push_of_some _ e)
  exact ⟨.ref s.heap.objs.size, upd H s.heap.objs.size (SetO X.w s.heap.objs.size (fun j => decide (j ∈ ns)) c), I.laid (t' := tk) kp (Nat.le_refl _) (setO_new R), rfl, q _ c fr hcl⟩
end KG

set_option Elab.async false
set_option linter.all false
set_option maxRecDepth 100000
set_option maxHeartbeats 3200000
/-! KB2: [e for x in a for y in b]: KB's road, its items into a list. -/
namespace KG
open PySem PySem.Spec PySem.Calls PyProof.Rows L2
section
variable {X : Cx} {elt tg iter : Expr} {gens : List Comprehension} {ifs : List Expr} {scope : Scope} {pos : Pos} {d : Nat} {acc : Value} {R : Result → Shared → Prop} {pins : List (Addr × Obj)} {J : It} {g : TG} {tt : TT} {tb : L2.St → Hp → (Hp → Prop) → Prop} {vs : List Nat}
  {σ : L2.St} {H : Hp} {Z : Hp → Prop} {s : Shared} {rest : Sem Unit} {it : Addr} {fp : List Addr} {tn : Nat → Heap → Prop}
theorem clause_runL (hx : X.xe = fun _ _ => False) (hc : X.calm = true) (ht : compTurn (.ListComp elt gens scope pos) d (.ref it) acc X.env = clTurn tg iter ifs X.env (.ref it) rest (.compLoop (.ListComp elt gens scope pos) d (.ref it) acc X.env))
    (pg : PG X tg g) (pt : PTs X ifs tt) (pr : Rest X rest tb vs) (T : Turn X.prog X.w X.K tg J fp it tn) (I : Inv X pins (wipe σ vs) H s) (st : tn 0 s.heap) (fo : ∀ b ∈ fp, FpOk X pins H b) (q : ClQ J g tt tb vs σ H Z)
    (hR : ∀ s' H', Inv X pins (wipe σ vs) H' s' → Z H' → R (.ok .next) s') : codeAny (model X.prog X.w) X.A (.compLoop (.ListComp elt gens scope pos) d (.ref it) acc X.env) R s := by
  obtain ⟨W, ⟨m0, w0⟩, turn⟩ := q
  refine codeAny_loop rfl (fun n t => ∃ i G, Inv X pins (wipe σ vs) G t ∧ tn i t.heap ∧ (∀ b ∈ fp, FpOk X pins G b) ∧ W i n G) (fun n t ht1 => ?_) m0 ⟨0, H, I, st, fo, w0⟩
  obtain ⟨i, G, I1, st1, fo1, w1⟩ := ht1
  show wpAny _ X.A ((compTurn (.ListComp elt gens scope pos) d (.ref it) acc X.env).onRaise fun x => do noteFrame x X.env; theTreesLotGoes x) _ _ t
  refine wpAny_noted ?_
  rw [ht]
  unfold clTurn
  refine wpAny_bind (wpAny_standAt (wpAny_bind ?_))
  rcases turn i n G w1 with ⟨stop, z⟩ | ⟨go, Nx, less, step⟩
  · exact thnF (T.done X rfl rfl rfl hc i pins t (wipe σ vs) G (fun _ _ => False) I1 fo1 st1 stop) fun r t2 ⟨er, I2⟩ => by
      subst er
      exact wpAny_pure (hR t2 G I2 z)
  refine thnF (T.item X rfl rfl rfl hc i pins t (wipe σ vs) G (fun _ _ => False) I1 fo1 st1 go) fun r t2 ⟨u, er, next⟩ => ?_
  subst er
  refine wpAny_bind (thnF next fun _ t3 ⟨x, G3, I3, rx, y3, st3, none3⟩ => ?_)
  have fo3 : ∀ b ∈ fp, FpOk X pins G3 b := fun b hb => ⟨none3 b hb, (fo1 b hb).2⟩
  have P3 := I3.pinned fo3 (T.obj _ _ st3)
  -- the turn is over
  have over : ∀ {τ : L2.St} {t' : Shared} {G' : Hp}, Inv X (pins ++ pinsAt fp t3.heap) τ G' t' → τ.length = (wipe σ vs).length → (∀ (j : Nat) v, (wipe σ vs)[j]? = some (some v) → τ[j]? = some (some v)) → Nx G' →
      ∃ m, m < n ∧ ∃ i G, Inv X pins (wipe σ vs) G t' ∧ tn i t'.heap ∧ (∀ b ∈ fp, FpOk X pins G b) ∧ W i m G := fun {τ t' G'} I' l k nx => by
    obtain ⟨m, lt, w'⟩ := less G' nx
    have held : ∀ b ∈ fp, ∀ o, t3.heap.get? b = some o → t'.heap.get? b = some o ∧ G' b = none := fun b hb o e => by
      have z := I'.pin (b, o) (List.mem_append_right _ (List.mem_append_right _ (mem_pinsAt hb e)))
      exact ⟨z.1, z.2.1⟩
    refine ⟨m, lt, i + 1, G', I'.unpinned.weak l.symm k, T.keep _ _ _ st3 fun b hb o e => (held b hb o e).1, fun b hb => ⟨?_, (fo1 b hb).2⟩, w'⟩
    obtain ⟨o, e, _⟩ := T.obj _ _ st3 b hb
    exact (held b hb o e).2
  have pg' := pg.run _ t3 (wipe σ vs) G3 x u _ P3 rx (step x G3 y3)
  rw [hx] at pg'
  refine wpAny_bind (thnF pg' fun _ t4 ⟨σ4, G4, I4, e4, q4⟩ => ?_)
  have pt' := pt.run _ t4 σ4 G4 _ I4 q4
  rw [hx] at pt'
  have l4 : σ4.length = (wipe σ vs).length := by rw [← e4, wipe_length]
  refine wpAny_bind (thnF pt' fun b t5 ⟨G5, I5, q5⟩ => ?_)
  cases b with
  | false => exact wpAny_pure ⟨rfl, over I5 l4 (fun j v e => by rw [← e4] at e; exact (wipe_some e).1) q5⟩
  | true =>
    refine wpAny_bind (thnF (pr _ t5 σ4 G5 Nx I5 q5) fun _ t6 ⟨σ6, G6, I6, l6, k6, q6⟩ => ?_)
    exact wpAny_pure ⟨rfl, over I6 (l6.trans l4) (fun j v e => k6 j v (by rw [e4]; exact e)) q6⟩
/-- a clause's start -/
theorem clause_startL {ce : Env} {c : Comprehension} (hg : gens[d]? = some c) (ha : c.is_async = 0) (h : codeAny (model X.prog X.w) X.A (.compLoop (.ListComp elt gens scope pos) d (.ref it) acc ce) R s) (T : Turn X.prog X.w X.K tg J fp it tn) (st : tn 0 s.heap) :
    codeAny (model X.prog X.w) X.A (.compStart (.ListComp elt gens scope pos) d (.ref it) acc ce) R s := by
  refine codeAny_of_tree ?_
  show wpAny _ _ ((compStart (.ListComp elt gens scope pos) d (.ref it) acc ce).onRaise fun x => do noteFrame x ce; standAt theWindowsPlace) _ _ s
  refine wpAny_notedAt ?_
  have hcl : (clausesOf (.ListComp elt gens scope pos))[d]? = some c := hg
  unfold compStart
  rw [hcl]
  have hn : ((some c : Option Comprehension).elim false fun x => x.is_async != 0) = false := by
    show (c.is_async != 0) = false
    rw [ha]
    rfl
  rw [hn]
  simp only [Bool.false_eq_true, if_false]
  show wpAny _ _ (ask >>= _) _ _ s
  refine wpAny_bind (wpAny_askSetting (wpAny_ite ?_))
  have last : ∀ (s' : Shared) (E' : Value → Shared → Prop), s' = s → wpAny (model X.prog X.w) X.A (again (.compLoop (.ListComp elt gens scope pos) d (.ref it) acc ce)) (fun fin s' => match fin with | .done f => R (.ok f) s' | .again c' => c'.quiet = true ∧ codeAny (model X.prog X.w) X.A c' R s') E' s' := fun s' E' e => by
    subst e
    exact wpAny_pure ⟨rfl, h⟩
  split
  · first
      | exact last _ _ rfl
      | exact wpAny_bind (last _ _ rfl)
      | exact wpAny_bind (wpAny_pure (last _ _ rfl))
  · refine wpAny_bind (wpAny_rule ?_)
    first
      | exact wpAny_bind (wpAny_standAt (wpAny_bind (T.self X.A 0 s _ _ st (last _ _ rfl))))
      | exact wpAny_bind (wpAny_bind (wpAny_standAt (wpAny_bind (T.self X.A 0 s _ _ st (last _ _ rfl)))))
/-- the last clause's rest: the item goes into the list -/
def tAppL (D : Addr) (te : TE) : L2.St → Hp → (Hp → Prop) → Prop := fun σ H Z => te σ H fun y H1 => ∃ acc : List V, H1 D = some (.lst acc) ∧ acc.length < sizeLine ∧ Z (upd H1 D (.lst (acc ++ [y])))
theorem rest_app {D : Addr} {te : TE} (hx : X.xe = fun _ _ => False) (pe : PE X elt te) : Rest X (do let _ ← call (.builtin "list.append") [.ref D, ← eval elt X.env]) (tAppL D te) vs := by
  intro ps t τ G Y I q
  have h := pe.run ps t τ G _ I q
  rw [hx] at h
  refine wpAny_bind (thnF h fun u t1 ⟨y, G1, I1, r1, acc, hD, room, z⟩ => ?_)
  refine wpAny_bind (app_ok I1 hD room r1 fun t2 I2 => ?_)
  exact wpAny_pure ⟨τ, _, I2, rfl, fun j v e => (wipe_some e).1, z⟩
theorem rest_nextL {tg1 iter1 : Expr} {ifs1 : List Expr} {wi1 : TI} {g1 : TG} {tt1 : TT} {vs1 : List Nat} {rest1 : Sem Unit} {c : Comprehension} (hx : X.xe = fun _ _ => False) (hc : X.calm = true) (hs : ∀ x, foldedSetIterable iter1 X.env x = pure x) (hg : gens[d]? = some c) (ha : c.is_async = 0)
    (ht : ∀ it, compTurn (.ListComp elt gens scope pos) d it acc X.env = clTurn tg1 iter1 ifs1 X.env it rest1 (.compLoop (.ListComp elt gens scope pos) d it acc X.env))
    (pi1 : PI X tg1 iter1 wi1) (pg : PG X tg1 g1) (pt : PTs X ifs1 tt1) (pr : Rest X rest1 tb vs1) (sub : ∀ i ∈ vs1, i ∈ vs) :
    Rest X (do
      let x ← eval iter1 X.env
      standAt iter1.pos
      let x ← foldedSetIterable iter1 X.env x
      let _ ← runOwn (.compStart (.ListComp elt gens scope pos) d (← holding [x] (pyIter x)) acc X.env) X.env) (tNext1 wi1 g1 tt1 tb vs1) vs := by
  intro ps t τ G Y I q
  have h := pi1.run ps t τ G _ I q
  rw [hx] at h
  refine wpAny_bind (thnF h fun x t1 h1 => ?_)
  refine wpAny_bind (wpAny_standAt (wpAny_bind (wpAny_of_eq (hs x) (wpAny_bind (wpAny_holding (thnF h1 fun iv t2 h2 => ?_))))))
  obtain ⟨it1, fp1, tn1, J1, G2, e, I2, T1, st2, fo2, q2⟩ := h2
  subst e
  refine wpAny_bind (wpAny_runOwn ?_)
  rw [Around.mark_none]
  have keep : ∀ (j : Nat) v, (wipe τ vs)[j]? = some (some v) → (wipe τ vs1)[j]? = some (some v) := fun j v e => by
    obtain ⟨e1, e2⟩ := wipe_some e
    rw [wipe_out fun z => e2 (sub j z)]
    exact e1
  refine codeAny_mono (R := fun r t' => r = .ok .next ∧ ∃ G', Inv X ps (wipe τ vs1) G' t' ∧ Y G') (clause_startL hg ha (clause_runL hx hc (ht _) pg pt pr T1 (I2.weak (wipe_length _ _) fun j v e => (wipe_some e).1) st2 fo2 q2 fun t' G' I' z => ⟨rfl, G', I', z⟩) T1 st2) fun r t' ⟨er, G', I', z⟩ => ?_
  subst er
  have fin : ∃ σ' H', Inv X ps σ' H' t' ∧ σ'.length = τ.length ∧ (∀ (j : Nat) v, (wipe τ vs)[j]? = some (some v) → σ'[j]? = some (some v)) ∧ Y H' := ⟨_, G', I', wipe_length _ _, keep, z⟩
  first
    | exact wpAny_pure fin
    | exact wpAny_bind (wpAny_pure (wpAny_pure fin))
end
theorem turn_outL {elt tg iter tg1 iter1 : Expr} {ifs ifs1 : List Expr} {scope : Scope} {pos : Pos} {it acc : Value} {env : Env} :
    compTurn (.ListComp elt [⟨tg, iter, ifs, 0⟩, ⟨tg1, iter1, ifs1, 0⟩] scope pos) 0 it acc env = clTurn tg iter ifs env it (do
      let x ← eval iter1 env
      standAt iter1.pos
      let x ← foldedSetIterable iter1 env x
      let _ ← runOwn (.compStart (.ListComp elt [⟨tg, iter, ifs, 0⟩, ⟨tg1, iter1, ifs1, 0⟩] scope pos) 1 (← holding [x] (pyIter x)) acc env) env) (.compLoop (.ListComp elt [⟨tg, iter, ifs, 0⟩, ⟨tg1, iter1, ifs1, 0⟩] scope pos) 0 it acc env) := by
  unfold clTurn
  simp only [bind_assoc, pure_bind]
  rfl
theorem turn_inL {elt tg iter tg1 iter1 : Expr} {ifs ifs1 : List Expr} {scope : Scope} {pos : Pos} {it acc : Value} {env : Env} :
    compTurn (.ListComp elt [⟨tg, iter, ifs, 0⟩, ⟨tg1, iter1, ifs1, 0⟩] scope pos) 1 it acc env = clTurn tg1 iter1 ifs1 env it (do let _ ← call (.builtin "list.append") [acc, ← eval elt env]) (.compLoop (.ListComp elt [⟨tg, iter, ifs, 0⟩, ⟨tg1, iter1, ifs1, 0⟩] scope pos) 1 it acc env) := by rfl
section
variable {X : Cx}
/-- [elt for tg in iter if .. for tg1 in iter1 if ..]: D the new list -/
def tLc2 (wi : TI) (g : TG) (tt : TT) (wi1 : TI) (g1 : TG) (tt1 : TT) (te : TE) (vs vs1 : List Nat) : TE := fun σ H Q => wi σ H fun J H1 => ∀ D, H1 D = none →
  ClQ J g tt (tNext1 wi1 g1 tt1 (tAppL D te) vs1) vs σ (upd H1 D (.lst [])) (Q (.ref D))
theorem pe_lc2 {elt tg iter tg1 iter1 : Expr} {ifs ifs1 : List Expr} {scope : Scope} {own : List (Str × Nat)} {vs1 : List Nat} {pos : Pos} {wi wi1 : TI} {g g1 : TG} {tt tt1 : TT} {te : TE} (hc : X.calm = true) (hN : X.N.Nodup) (hi : PI X tg iter wi) (ok : BlkOk X.N X.env.scope scope own) (sub : ∀ i ∈ vs1, i ∈ own.map (·.2))
    (pg : ∀ (s : Shared) (H : Hp) (C : Addr) (cl : List (Str × Addr)) (fp : List Addr), PG (X.blk s H scope (compEnvC scope cl C X.env) fp) tg g) (pt : ∀ (s : Shared) (H : Hp) (C : Addr) (cl : List (Str × Addr)) (fp : List Addr), PTs (X.blk s H scope (compEnvC scope cl C X.env) fp) ifs tt)
    (hi1 : ∀ (s : Shared) (H : Hp) (C : Addr) (cl : List (Str × Addr)) (fp : List Addr), PI (X.blk s H scope (compEnvC scope cl C X.env) fp) tg1 iter1 wi1)
    (pg1 : ∀ (s : Shared) (H : Hp) (C : Addr) (cl : List (Str × Addr)) (fp : List Addr), PG (X.blk s H scope (compEnvC scope cl C X.env) fp) tg1 g1) (pt1 : ∀ (s : Shared) (H : Hp) (C : Addr) (cl : List (Str × Addr)) (fp : List Addr), PTs (X.blk s H scope (compEnvC scope cl C X.env) fp) ifs1 tt1)
    (pe : ∀ (s : Shared) (H : Hp) (C : Addr) (cl : List (Str × Addr)) (fp : List Addr), PE (X.blk s H scope (compEnvC scope cl C X.env) fp) elt te) (hs : ∀ x, foldedSetIterable iter X.env x = pure x := by intro _; rfl) (hs1 : ∀ env x, foldedSetIterable iter1 env x = pure x := by intro _ _; rfl) :
    PE X (.ListComp elt [⟨tg, iter, ifs, 0⟩, ⟨tg1, iter1, ifs1, 0⟩] scope pos) (tLc2 wi g tt wi1 g1 tt1 te (own.map (·.2)) vs1) := by
  refine ⟨fun pins s σ H Q I h => ?_⟩
  have closed : ∀ y ∈ scope.names, y.2 = .free → ∃ c, X.env.cells.lookup y.1 = some c := fun y hy e => (ok.free y hy e).elim (fun k => I.ok.has _ (.inl k)) fun k => I.ok.has _ (.inr k)
  rw [eval_ListComp]
  show wpAny _ _ (comprehension (.ListComp elt [⟨tg, iter, ifs, 0⟩, ⟨tg1, iter1, ifs1, 0⟩] scope pos) scope X.env _ (newList []) _ (eval iter X.env)) _ _ s
  refine wpAny_comprehension_free (use := none) rfl hs (closure_ok closed) ok.kind (fun y hy e => by rw [ok.uniq y hy, e]) (thn (hi.run pins s σ H _ I h) fun xv t1 hx => thn hx fun iv t2 h2 => ?_)
  obtain ⟨it, fp, tn, J, H2, e, I2, T, st2, fo2, q⟩ := h2
  subst e
  refine wpAny_newObj_type (newEnv_comp ?_) (by show 0 ≤ sizeLine; decide)
  generalize hD : t2.heap.objs.size = D
  have q := q D (I2.hok.fresh (Nat.le_of_eq hD))
  generalize ht3 : ({ t2 with heap := t2.heap.push { cls := .type "list", data := .seq ([] : List Value).toArray } } : Shared) = t3
  generalize hH3 : upd H2 D (.lst []) = H3 at q
  have e3 : t3.heap = t2.heap.push { cls := .type "list", data := .seq ([] : List Value).toArray } := by rw [← ht3]
  have I3 : Inv X pins σ H3 t3 := by
    rw [← ht3, ← hH3]
    refine I2.laid (t' := t2.toks) (fun b o e => Heap.get?_push_of_some _ e) (Nat.le_of_eq hD) ⟨Nat.zero_le _, [], 0, .nil, ?_⟩
    rw [← hD]
    exact Heap.get?_push_size _ rfl
  have young : ∀ b ∈ fp, b < t2.heap.objs.size := fun b hb => by
    obtain ⟨o, e, _⟩ := T.obj _ _ st2 b hb
    exact Heap.lt_size e
  have fo3 : ∀ b ∈ fp, FpOk X pins H3 b ∧ b < t3.heap.objs.size := fun b hb => by
    have lt := young b hb
    have ne : b ≠ D := by
      rw [← hD]
      exact Nat.ne_of_lt lt
    refine ⟨⟨?_, (fo2 b hb).2⟩, by rw [e3, Heap.size_push]; exact Nat.lt_succ_of_lt lt⟩
    rw [← hH3, upd_ne ne]
    exact (fo2 b hb).1
  have I4 := block_start I3 ok hN fo3
  generalize hcl : cellsFrom (t3.heap.objs.size + 1) scope.names (cloFrom X.env.cells scope.names []) = cl at I4
  have pg := pg t3 H3 t3.heap.objs.size cl fp
  have pt := pt t3 H3 t3.heap.objs.size cl fp
  have pi1 := hi1 t3 H3 t3.heap.objs.size cl fp
  have pg1 := pg1 t3 H3 t3.heap.objs.size cl fp
  have pt1 := pt1 t3 H3 t3.heap.objs.size cl fp
  have pe := pe t3 H3 t3.heap.objs.size cl fp
  show codeAny _ _ (.compStart (.ListComp elt [⟨tg, iter, ifs, 0⟩, ⟨tg1, iter1, ifs1, 0⟩] scope pos) 0 (.ref it) (.ref D) (compEnvC scope cl t3.heap.objs.size X.env)) _ { t3 with heap := pushCells (t3.heap.push { cls := .type "dict", data := .dict #[] }) scope.names }
  generalize ht4 : ({ t3 with heap := pushCells (t3.heap.push { cls := .type "dict", data := .dict #[] }) scope.names } : Shared) = t4 at I4 ⊢
  have st4 : tn 0 t4.heap := T.keep _ _ _ st2 fun b _ o e => by
    rw [← ht4]
    exact pushCells_keeps _ _ _ _ (Heap.get?_push_of_some _ (by rw [e3]; exact Heap.get?_push_of_some _ e))
  have fo4 : ∀ b ∈ fp, FpOk (X.blk t3 H3 scope (compEnvC scope cl t3.heap.objs.size X.env) fp) [] H3 b := fun b hb =>
    ⟨(fo3 b hb).1.1, (I4.ok.exf b hb).1, I4.ok.exfs b hb, .inl hb, fun x c e => (I4.ok.exf b hb).2 x c e, fun p hp => absurd (show p ∈ ([] : List (Addr × Obj)) ++ [] from hp) (by simp)⟩
  have run := clause_runL (X := X.blk t3 H3 scope (compEnvC scope cl t3.heap.objs.size X.env) fp) (elt := elt) (gens := [⟨tg, iter, ifs, 0⟩, ⟨tg1, iter1, ifs1, 0⟩]) (scope := scope) (pos := pos) (d := 0) (acc := .ref D) (iter := iter) (R := compPost (model X.prog X.w) X.A X.xe none (EP X pins σ Q) (.ref D) t3.heap.objs.size) rfl hc turn_outL pg pt
    (rest_nextL (X := X.blk t3 H3 scope (compEnvC scope cl t3.heap.objs.size X.env) fp) (elt := elt) (gens := [⟨tg, iter, ifs, 0⟩, ⟨tg1, iter1, ifs1, 0⟩]) (scope := scope) (pos := pos) (acc := .ref D) (iter1 := iter1) (d := 1) rfl hc (hs1 _) rfl rfl (fun _ => turn_inL) pi1 pg1 pt1 (rest_app (X := X.blk t3 H3 scope (compEnvC scope cl t3.heap.objs.size X.env) fp) (D := D) rfl pe) sub) T I4 st4 fo4 q fun t5 H5 I5 z => ?_
  · exact clause_startL (X := X.blk t3 H3 scope (compEnvC scope cl t3.heap.objs.size X.env) fp) (d := 0) rfl rfl run T st4
  · have nC : H5 t3.heap.objs.size = none := I5.free
    have back : Inv X pins σ H5 t5 := I3.call' (ch := fp) I5.os I5.base I5.hok I5.bare fun b hb => ⟨(fo3 b hb).1.2.2.2.1, (fo3 b hb).1.2.1, (fo3 b hb).1.2.2.2.2.1, (fo3 b hb).1.2.2.2.2.2⟩
    obtain ⟨m, hn, _⟩ := I5.loc
    obtain ⟨f0, f1, f2, f3, f4, f5⟩ := I3.fpOk (Nat.le_refl _) nC
    refine ⟨m, hn, fun h'' sb => ?_⟩
    exact ⟨.ref D, H5, back.turned (t' := t5.toks) (fun b o hb e => (sb.2 b hb).trans e) f0 f1 f3 f4 f5, rfl, z⟩
theorem w_lc2 {wi wi1 : TI} {g g1 : TG} {tt tt1 : TT} {te : TE} {vs vs1 : List Nat} {σ : L2.St} {H : Hp} {Q : VK} (q : wi σ H fun J H1 => ∀ D, H1 D = none → ClQ J g tt (tNext1 wi1 g1 tt1 (tAppL D te) vs1) vs σ (upd H1 D (.lst [])) (Q (.ref D))) : tLc2 wi g tt wi1 g1 tt1 te vs vs1 σ H Q := q
end
end KG

set_option Elab.async false
set_option linter.all false
set_option maxRecDepth 100000
set_option maxHeartbeats 4000000
namespace Law
open PySem PySem.Spec PySem.Calls PyProof.Rows L2 KG LamX
local macro_rules | `(tactic| walk_at "1") => `(tactic| first
  | (with_reducible refine w_var rfl ?_) | (with_reducible refine w_c ?_) | (with_reducible refine w_seq ?_) | (with_reducible refine w_asg ?_) | (with_reducible refine w_gname ?_) | (with_reducible refine w_op ?_) | (with_reducible refine w_un ?_)
  | (with_reducible refine w_add ?_) | (with_reducible refine w_sub ?_) | ((with_reducible refine' w_mod ?mo ?_); (case mo => first | assumption | decide | omega)) | (with_reducible refine w_and ?_) | (with_reducible refine w_or ?_) | (with_reducible refine w_xor ?_)
  | (with_reducible refine w_gt ?_) | (with_reducible refine w_lt ?_) | (with_reducible refine w_ge ?_) | (with_reducible refine w_le ?_) | ((with_reducible refine' w_eq ?sc ?_); (case sc => rfl)) | ((with_reducible refine' w_ne ?sc ?_); (case sc => rfl))
  | (with_reducible refine w_ret ?_) | (with_reducible refine w_next ?_) | (with_reducible refine w_ifs ?_) | (with_reducible refine w_ifx ?_) | (with_reducible refine w_test ?_) | (with_reducible refine w_tB ?_) | (with_reducible refine w_bl ?_)
  | ((with_reducible refine' w_ixL ?ixh ?ixa ?_); (case ixh => first | exact SqL.of (by assumption)); (case ixa => first | rfl | skip)) | ((with_reducible refine' w_ixT ?ixh ?ixa ?_); (case ixh => first | exact SqT.of (by assumption)); (case ixa => first | rfl | skip))
  | ((with_reducible refine' w_fld ?_)) | ((with_reducible refine' fld ?fh ?fc ?fn ?fl ?_); (case fh => assumption); (case fc => assumption); (case fn => assumption); (case fl => rfl)) | (with_reducible refine w_sfld ?_)
  | (with_reducible refine Or.inl ⟨_, rfl, ?_⟩) | (with_reducible refine w_gsub ?_) | (with_reducible refine w_andV ?_) | (with_reducible refine w_orV ?_)
  | (with_reducible refine w_nil ?_) | (with_reducible refine w_cons ?_) | (with_reducible refine w_tup ?_) | (with_reducible refine w_lst ?_) | (with_reducible refine w_and2 ?_) | (with_reducible refine w_or2 ?_) | (with_reducible refine w_not ?_) | (with_reducible refine w_cb ?_) | (with_reducible refine w_call ?_) | (with_reducible refine w_par ?_) | (with_reducible refine w_pnil ?_) | (with_reducible refine w_pcons ?_) | (with_reducible refine w_dput ?_) | (with_reducible refine w_dget ?_) | (with_reducible refine w_for ?_) | (with_reducible refine w_itup ?_) | (with_reducible refine w_ilist ?_) | (with_reducible refine w_irng ?_) | (with_reducible refine w_meth ?_) | (with_reducible refine w_make ?_) | (with_reducible refine w_makeK ?_) | (with_reducible refine w_methK ?_) | ((with_reducible refine' mth ?mh ?ml ?_); (case mh => assumption); (case ml => rfl)) | (with_reducible refine w_drop ?_))
local macro_rules | `(tactic| walk_at "go") => `(tactic| ((repeat (walk_at "1")); try dsimp only))
local macro_rules | `(tactic| walk_at "1") => `(tactic| first
  | (with_reducible refine w_notV ?_) | (with_reducible refine w_callK ?_) | (with_reducible refine w_lc ?_) | (with_reducible refine w_chain ?_) | (with_reducible refine w_neg ?_) | ((with_reducible refine' w_shr ?mo ?_); (case mo => first | assumption | omega)))
/-- a comprehension over zip of two tuples that stand still -/
theorem lc_zipT {K : PySem.W.Frag} {a b : Addr} {xs ys : List V} {g : TG} {tt : TT} {te : TE} {vs : List Nat} {σ : L2.St} {H1 : Hp} {D : Addr} {Qd : Hp → Prop} (hl : xs.length = ys.length) (Pv : Nat → Hp → Prop) (h0 : Pv 0 (upd H1 D (.lst []))) (hq : ∀ i H, i ≤ xs.length → Pv i H → SqT K H a xs ∧ SqT K H b ys)
    (hs : ∀ (i : Nat) (x y : V) (T : Addr) (H H' : Hp), xs[i]? = some x → ys[i]? = some y → Pv i H → H T = none → H' T = some (.tup [x, y]) → Same H H' → g (.ref T) (wipe σ vs) H' fun σ2 H2 => wipe σ2 vs = wipe σ vs ∧ tt σ2 H2 fun b H3 =>
      if b = true then te σ2 H3 fun y H4 => ∃ acc, H4 D = some (.lst acc) ∧ acc.length < sizeLine ∧ Pv (i + 1) (upd H4 D (.lst (acc ++ [y]))) else Pv (i + 1) H3) (hd : ∀ H, Pv xs.length H → Qd H) :
    ∃ W : Nat → Nat → Hp → Prop, (∃ m, W 0 m (upd H1 D (.lst []))) ∧ ∀ i m H, W i m H →
      ((RZ.ItzT K a b).stop i H ∧ Qd H) ∨ ((RZ.ItzT K a b).go i H ∧ ∃ Nx : Hp → Prop, (∀ H', Nx H' → ∃ m', m' < m ∧ W (i + 1) m' H') ∧ ∀ x H', (RZ.ItzT K a b).yld i H x H' → g x (wipe σ vs) H' fun σ2 H2 => wipe σ2 vs = wipe σ vs ∧ tt σ2 H2 fun b H3 =>
        if b = true then te σ2 H3 fun y H4 => ∃ acc, H4 D = some (.lst acc) ∧ acc.length < sizeLine ∧ Nx (upd H4 D (.lst (acc ++ [y]))) else Nx H3) := by
  refine ⟨fun i m H => m = xs.length - i ∧ i ≤ xs.length ∧ Pv i H, ⟨xs.length, rfl, Nat.zero_le _, h0⟩, ?_⟩
  rintro i m H ⟨rfl, hi, p⟩
  obtain ⟨qx, qy⟩ := hq i H hi p
  rcases Nat.lt_or_ge i xs.length with c | c
  · refine .inr ⟨⟨xs, ys, _, _, qx, qy, List.getElem?_eq_getElem c, List.getElem?_eq_getElem (hl ▸ c)⟩, Pv (i + 1), fun H' p' => ⟨xs.length - (i + 1), by omega, rfl, c, p'⟩, fun v H' z => ?_⟩
    obtain ⟨T, x', y', rfl, hT, rfl, f1, f2⟩ := z
    exact hs i x' y' T H _ (f1 xs qx) (f2 ys qy) p hT upd_same fun e o h => by
      rw [upd_ne (ne_of_none h hT)]
      exact h
  · have e : i = xs.length := by omega
    subst e
    exact .inl ⟨⟨xs, ys, qx, qy, .inl (Nat.le_refl _)⟩, hd H p⟩
theorem w_izip {K : PySem.W.Frag} {ta : TA} {σ : L2.St} {H : Hp} {R : It → Hp → Prop} (q : ta σ H fun vs H1 => ∃ a b xs ys, vs = [.ref a, .ref b] ∧ ((SqL K H1 a xs ∧ SqL K H1 b ys ∧ R (Itz K a b) H1) ∨ (SqT K H1 a xs ∧ SqT K H1 b ys ∧ R (RZ.ItzT K a b) H1))) : RZ.iZipA K ta σ H R := q
theorem w_catA {K : PySem.W.Frag} {a b : Addr} {xs ys : List V} {H : Hp} {Q : VK} (ha : SqT K H a xs) (hb : SqT K H b ys) (hz : xs.length + ys.length ≤ sizeLine) (q : ∀ p H', SqT K H' p (xs ++ ys) → Same H H' → Q (.ref p) H') : rCatA K (.ref a) (.ref b) H Q :=
  ⟨a, b, xs, ys, rfl, rfl, ha, hb, hz, fun e => by
    subst e
    exact q b H (by simpa using hb) fun _ _ z => z, fun _ e => by
    subst e
    exact q a H (by simpa using ha) fun _ _ z => z, fun _ _ p np => q p _ (SqT.of upd_same) fun b o z => by
    rw [upd_ne (ne_of_none z np)]
    exact z⟩
theorem iteNo {c : Bool} {A B : Prop} (h : c = false) (q : B) : if c = true then A else B := by rw [h]; exact q
def uniR (F G : List (List Int)) : List (List Int) := (F.zip G).map fun p => asc (p.1 ++ p.2)
theorem asc_len (l : List Int) : (asc l).length ≤ 4 := by
  unfold asc
  exact pick_len _
theorem Rw.uniR {n : Nat} {F G : List (List Int)} (h : Rw n F) (g : Rw n G) : Rw n (uniR F G) := by
  refine ⟨by unfold Law.uniR; rw [List.length_map, List.length_zip, h.len, g.len, Nat.min_self], fun e he k hk => ?_, fun e he => ?_⟩
  · obtain ⟨p, hp, rfl⟩ := List.mem_map.mp he
    unfold asc at hk
    obtain ⟨_, h2⟩ := pick_mem.mp hk
    rw [List.contains_iff_mem, List.mem_append] at h2
    rcases h2 with h2 | h2
    · exact h.bd _ (List.of_mem_zip hp).1 k h2
    · exact g.bd _ (List.of_mem_zip hp).2 k h2
  · obtain ⟨p, hp, rfl⟩ := List.mem_map.mp he
    exact asc_len _
def spEither : Sp := fun vs H Q _ => ∃ (f g : Addr) (F G : List (List Int)) (n : Nat), vs = [.ref f, .ref g] ∧ RowsAt H f F ∧ RowsAt H g G ∧ Rw n F ∧ Rw n G ∧ n ≤ 4 ∧ ∀ t H', H t = none → RowsAt H' t (uniR F G) → Same H H' → Q (.ref t) H'
/-- two effects of the same words -/
def spSK (C CE : Addr) : Sp := fun vs H Q _ => ∃ (e e' k k' : Addr) (r w d : Str) (F F' : List (List Int)), vs = [.ref e, .ref e'] ∧ EffAt C CE H e k r w d F ∧ EffAt C CE H e' k' r w d F' ∧ Q .non H
section
variable {P : Program} {w : World} {K : PySem.W.Frag} {mg : Str → Option Value} {base : Heap} {C CE aW aI : Addr} {mc : Value}
theorem ok_sk (D : DefAt K mg "check_same_kind" s_check_same_kind ["a", "b"]) (TE : ET K mg CE) (T : KT K w mg C aW aI mc) {fE : Addr} {fdE : FuncData}
    (FEQ : Gd P w K mg base CX0 1 fE fdE ["self", "other"] (spEQ C)) (bEQ : Binds K fdE ["self", "other"] []) (eqI : PySem.W.findIn K (.ref C) "__eq__" = some (some (.ref fE))) (eqF : PySem.W.isFn K (.ref fE) = true) (neI : PySem.W.findIn K (.ref C) "__ne__" = some (some (.builtin "object.__ne__"))) (nfC : PySem.W.notFirst K C (.ref C) = true) :
    Cal P w K mg base 3 "check_same_kind" (spSK C CE) := by
  refine D.cal (k := 2) sc_check_same_kind (fun vs H Q E h => ?_) (fun f cdv A outer s0 H vs Q E rm gd h => ?_)
  · obtain ⟨e, e', k, k', r, wr, d, F, F', rfl, _⟩ := h
    rfl
  · obtain ⟨e, e', k, k', r, wr, d, F, F', rfl, ⟨dx, t, h1, h2, h3⟩, ⟨dx', t', h1', h2', h3'⟩, q⟩ := h
    have cl := TE.cl
    have nK := TE.nK
    refine ⟨_, (pss_one (ps_if (pt_cmpR (op_neO FEQ (rm.mono (by decide)) gd eqI eqF neI T.isM bEQ pass0) (pe_fld (pv 0) rfl) (pe_fld (pv 1) rfl) (nomark _))
      (pss_one ps_never)
      pss_nil)), ?_⟩
    obtain ⟨dk, sk, hk1, _⟩ := id h2
    walk_at "go"
    refine ⟨k, dk, _, .ref C, rfl, hk1, ty_kind T h2', nfC, k, k', r, wr, d, r, wr, d, rfl, h2, h2', _, rfl, _, rfl, ?_⟩
    refine iteNo (by simp) ?_
    exact q
theorem ok_either (D : DefAt K mg "either" s_either ["first", "second"]) (B : B1 mg) : Cal P w K mg base 1 "either" spEither := by
  refine D.cal sc_either (fun vs H Q E h => ?_) (fun f cdv A outer s0 H vs Q E rm gd h => ?_)
  · obtain ⟨f, g, F, G, n, rfl, _⟩ := h
    rfl
  · obtain ⟨f, g, F, G, n, rfl, hF, hG, rF, rG, n4, q⟩ := h
    refine ⟨_, (pss_one (ps_ret (pe_callTy call_tuple_of (by rfl) B.g_tuple (by decide +kernel) (pa_cons (pe_lc (own := [("one", 2), ("other", 3)]) (g := (gTup K 2 (gCons (gName 2) (gCons (gName 3) gNil)))) (by rfl) sc_either.nd (RZ.pi_zipA (by rfl) B.g_zip (pa_cons (pv 0) (pa_cons (pv 1) pa_nil))) (blkOk_by (own := [("one", 2), ("other", 3)]) (N := ["first", "second", "one", "other"]) (sc := defScope s_either) (by decide +kernel)) (fun _ _ _ _ _ => (pg_tup rfl (pgs_cons (pg_name (i := 2) sc_either.nd rfl (Or.inl rfl)) (pgs_cons (pg_name (i := 3) sc_either.nd rfl (Or.inl rfl)) pgs_nil)))) (fun _ _ _ _ _ => pts_nil) (fun _ _ _ _ _ => (show PE _ _ (tCB (rTupOf K) (tCons (tCB (rSortedSet w) (tCons (tCB (rSetT K w) (tCons (tOp (rCatA K) (tVar 2) (tVar 3)) tNil)) tNil)) tNil)) from pe_callTy (T := "tuple") (r := rTupOf K) cr_tupOf (by rfl) B.g_tuple (by decide +kernel) (pa_cons (pe_callB (id := "sorted") (r := rSortedSet w) (cr_sortedSet rfl) (by rfl) B.g_sorted (by decide +kernel) (pa_cons (pe_callTy (T := "set") (r := rSetT K w) (cr_setT rfl) (by rfl) B.g_set (by decide +kernel) (pa_cons (pe_op (r := rCatA K) op_catA (pv 2) (pv 3)) pa_nil)) pa_nil)) pa_nil)))) pa_nil)))), ?_⟩
    walk_at "go"
    obtain ⟨tf, f1, f2, f3⟩ := id hF
    obtain ⟨tg, g1, g2, g3⟩ := id hG
    refine w_izip ?_
    walk_at "go"
    refine ⟨f, g, tf.map V.ref, tg.map V.ref, rfl, .inr ⟨SqT.of f1, SqT.of g1, ?_⟩⟩
    intro D nD
    have zD : Same H (upd H D (.lst [])) := fun b u e => by
      rw [upd_ne (ne_of_none e nD)]
      exact e
    have lU : (uniR F G).length = n := by unfold uniR; rw [List.length_map, List.length_zip, rF.len, rG.len, Nat.min_self]
    refine lc_zipT (K := K) (a := f) (b := g) (xs := tf.map V.ref) (ys := tg.map V.ref) (by rw [List.length_map, List.length_map, f2, g2, rF.len, rG.len]) (fun i H' => RowsL H' D ((uniR F G).take i) ∧ Same H H') ⟨.nil upd_same, zD⟩ (fun i H' _ ⟨_, s⟩ => ⟨SqT.of (s _ _ f1), SqT.of (s _ _ g1)⟩) (fun i x y Tp H1 H2 hx hy ⟨hD, s1⟩ nT hT s2 => ?_) (fun H1 ⟨hD, s1⟩ => ?_)
    · rw [List.getElem?_map] at hx hy
      obtain ⟨a, ha, rfl⟩ := Option.map_eq_some_iff.mp hx
      obtain ⟨b, hb, rfl⟩ := Option.map_eq_some_iff.mp hy
      have i1 := (List.getElem?_eq_some_iff.mp ha).1
      have i2 := (List.getElem?_eq_some_iff.mp hb).1
      obtain ⟨e1, he1⟩ : ∃ e, F[i]? = some e := ⟨_, List.getElem?_eq_getElem (by omega)⟩
      obtain ⟨e2, he2⟩ : ∃ e, G[i]? = some e := ⟨_, List.getElem?_eq_getElem (by omega)⟩
      have h1 := s2 _ _ (s1 _ _ (f3 i a e1 ha he1))
      have h2 := s2 _ _ (s1 _ _ (g3 i b e2 hb he2))
      have l1 := rF.few e1 (List.mem_of_getElem? he1)
      have l2 := rG.few e2 (List.mem_of_getElem? he2)
      have b4 : ∀ k ∈ e1 ++ e2, 0 ≤ k ∧ k < 4 := fun k hk => by
        rcases List.mem_append.mp hk with hk | hk
        · have := rF.bd e1 (List.mem_of_getElem? he1) k hk
          omega
        · have := rG.bd e2 (List.mem_of_getElem? he2) k hk
          omega
      have hU : (uniR F G)[i]? = some (asc (e1 ++ e2)) := by
        unfold uniR
        rw [List.getElem?_map, show (F.zip G)[i]? = some (e1, e2) from List.getElem?_zip_eq_some.mpr ⟨he1, he2⟩]
        rfl
      refine ⟨Tp, _, rfl, SqT.of hT, rfl, _, _, rfl, _, _, rfl, rfl, ?_⟩
      walk_at "go"
      refine ⟨rfl, ?_⟩
      try unfold tYes
      refine iteT ?_
      walk_at "go"
      refine w_catA (SqT.of h1) (SqT.of h2) (by rw [List.length_map, List.length_map]; exact Nat.le_trans (show _ ≤ 100 by omega) (by decide)) fun p H3 hp s3 => ?_
      walk_at "go"
      refine ⟨p, e1 ++ e2, rfl, by rw [List.map_append]; exact hp, by rw [List.length_append]; omega, fun aS c na hc => ?_⟩
      have x1 : Same H3 (upd H3 aS (SetO w aS (fun j => decide (j ∈ e1 ++ e2)) c)) := fun b o e => by
        rw [upd_ne (ne_of_none e na)]
        exact e
      have i1 : upd H3 aS (SetO w aS (fun j => decide (j ∈ e1 ++ e2)) c) aS = some (SetO w aS (fun j => decide (j ∈ e1 ++ e2)) c) := upd_same
      show _root_.L2.tNil _ (upd H3 aS (SetO w aS (fun j => decide (j ∈ e1 ++ e2)) c)) _
      generalize upd H3 aS (SetO w aS (fun j => decide (j ∈ e1 ++ e2)) c) = H4 at x1 i1
      walk_at "go"
      have cl : c ≤ 8 := by rw [List.length_append] at hc; omega
      refine ⟨aS, _, c, rfl, i1, by omega, fun ns p4 pw hm _ np => ?_⟩
      have ens : ns = asc (e1 ++ e2) := asc_pick pw hm fun k => by
        rw [decide_eq_true_eq, List.contains_iff_mem]
        exact ⟨fun z => ⟨b4 k z, z⟩, fun z => z.2⟩
      subst ens
      have x2 : Same H4 (upd H4 p4 (.lst ((asc (e1 ++ e2)).map V.int))) := fun b o e => by
        rw [upd_ne (ne_of_none e np)]
        exact e
      have hp4 : upd H4 p4 (.lst ((asc (e1 ++ e2)).map V.int)) p4 = some (.lst ((asc (e1 ++ e2)).map V.int)) := upd_same
      generalize upd H4 p4 (.lst ((asc (e1 ++ e2)).map V.int)) = H5 at x2 hp4 ⊢
      walk_at "go"
      refine ⟨p4, _, rfl, .inl ⟨SqL.of hp4, fun q nq => ?_⟩⟩
      have x3 : Same H5 (upd H5 q (.tup ((asc (e1 ++ e2)).map V.int))) := fun b o e => by
        rw [upd_ne (ne_of_none e nq)]
        exact e
      have sA := s2.trans (s3.trans (x1.trans (x2.trans x3)))
      obtain ⟨acc, j1, j2, j3⟩ := (hD.same sA).snoc (row := asc (e1 ++ e2)) (t := q) upd_same
      rw [List.length_take] at j2
      refine ⟨acc, j1, big_of (by omega), by rw [List.take_add_one, hU]; exact j3, fun b u z => ?_⟩
      rw [upd_ne (ne_of_none z nD)]
      exact sA _ _ (s1 _ _ z)
    · rw [List.length_map, show tf.length = (uniR F G).length by rw [lU, f2, rF.len], List.take_length] at hD
      walk_at "go"
      obtain ⟨xs, hx⟩ := hD.at_
      refine ⟨D, xs, rfl, .inl ⟨SqL.of hx, fun l nl => ?_⟩⟩
      obtain ⟨xs', hx', _, h3⟩ := hD.tup nl
      rw [hx] at hx'
      cases hx'
      exact q l _ (back s1 nl) h3 (s1.trans fun b u z => by
        rw [upd_ne (ne_of_none z nl)]
        exact z)
end
end Law

set_option Elab.async false
set_option linter.all false
set_option maxRecDepth 100000
set_option maxHeartbeats 4000000
namespace Law
open PySem PySem.Spec PySem.Calls PyProof.Rows L2 KG LamX
local macro_rules | `(tactic| walk_at "1") => `(tactic| first
  | (with_reducible refine w_var rfl ?_) | (with_reducible refine w_c ?_) | (with_reducible refine w_seq ?_) | (with_reducible refine w_asg ?_) | (with_reducible refine w_gname ?_) | (with_reducible refine w_op ?_) | (with_reducible refine w_un ?_)
  | (with_reducible refine w_add ?_) | (with_reducible refine w_sub ?_) | ((with_reducible refine' w_mod ?mo ?_); (case mo => first | assumption | decide | omega)) | (with_reducible refine w_and ?_) | (with_reducible refine w_or ?_) | (with_reducible refine w_xor ?_)
  | (with_reducible refine w_gt ?_) | (with_reducible refine w_lt ?_) | (with_reducible refine w_ge ?_) | (with_reducible refine w_le ?_) | ((with_reducible refine' w_eq ?sc ?_); (case sc => rfl)) | ((with_reducible refine' w_ne ?sc ?_); (case sc => rfl))
  | (with_reducible refine w_ret ?_) | (with_reducible refine w_next ?_) | (with_reducible refine w_ifs ?_) | (with_reducible refine w_ifx ?_) | (with_reducible refine w_test ?_) | (with_reducible refine w_tB ?_) | (with_reducible refine w_bl ?_)
  | ((with_reducible refine' w_ixL ?ixh ?ixa ?_); (case ixh => first | exact SqL.of (by assumption)); (case ixa => first | rfl | skip)) | ((with_reducible refine' w_ixT ?ixh ?ixa ?_); (case ixh => first | exact SqT.of (by assumption)); (case ixa => first | rfl | skip))
  | ((with_reducible refine' w_fld ?_)) | ((with_reducible refine' fld ?fh ?fc ?fn ?fl ?_); (case fh => assumption); (case fc => assumption); (case fn => assumption); (case fl => rfl)) | (with_reducible refine w_sfld ?_)
  | (with_reducible refine Or.inl ⟨_, rfl, ?_⟩) | (with_reducible refine w_gsub ?_) | (with_reducible refine w_andV ?_) | (with_reducible refine w_orV ?_)
  | (with_reducible refine w_nil ?_) | (with_reducible refine w_cons ?_) | (with_reducible refine w_tup ?_) | (with_reducible refine w_lst ?_) | (with_reducible refine w_and2 ?_) | (with_reducible refine w_or2 ?_) | (with_reducible refine w_not ?_) | (with_reducible refine w_cb ?_) | (with_reducible refine w_call ?_) | (with_reducible refine w_par ?_) | (with_reducible refine w_pnil ?_) | (with_reducible refine w_pcons ?_) | (with_reducible refine w_dput ?_) | (with_reducible refine w_dget ?_) | (with_reducible refine w_for ?_) | (with_reducible refine w_itup ?_) | (with_reducible refine w_ilist ?_) | (with_reducible refine w_irng ?_) | (with_reducible refine w_meth ?_) | (with_reducible refine w_make ?_) | (with_reducible refine w_makeK ?_) | (with_reducible refine w_methK ?_) | ((with_reducible refine' mth ?mh ?ml ?_); (case mh => assumption); (case ml => rfl)) | (with_reducible refine w_drop ?_))
local macro_rules | `(tactic| walk_at "go") => `(tactic| ((repeat (walk_at "1")); try dsimp only))
local macro_rules | `(tactic| walk_at "1") => `(tactic| first
  | (with_reducible refine w_notV ?_) | (with_reducible refine w_callK ?_) | (with_reducible refine w_lc ?_) | (with_reducible refine w_chain ?_) | (with_reducible refine w_neg ?_) | ((with_reducible refine' w_shr ?mo ?_); (case mo => first | assumption | omega)))
def spMul (C CE : Addr) : Sp := fun vs H Q _ => ∃ (e e' k k' : Addr) (r w d : Str) (F F' : List (List Int)), vs = [.ref e, .ref e'] ∧ EffAt C CE H e k r w d F ∧ EffAt C CE H e' k' r w d F' ∧ Rw (stN w).length F ∧ Rw (stN w).length F' ∧ ∀ e2 H', H e2 = none → EffAt C CE H' e2 k r w d (joinR F F') → Same H H' → Q (.ref e2) H'
def spOr (C CE : Addr) : Sp := fun vs H Q _ => ∃ (e e' k k' : Addr) (r w d : Str) (F F' : List (List Int)), vs = [.ref e, .ref e'] ∧ EffAt C CE H e k r w d F ∧ EffAt C CE H e' k' r w d F' ∧ Rw (stN w).length F ∧ Rw (stN w).length F' ∧ ∀ e2 H', H e2 = none → EffAt C CE H' e2 k r w d (uniR F F') → Same H H' → Q (.ref e2) H'
def winL (F G : List (List Int)) (l : List Int) : List Bool := l.flatMap fun s => (F.getD s.toNat []).map fun k => (G.getD s.toNat []).contains k
def spWin (C CE : Addr) : Sp := fun vs H Q _ => ∃ (e e' k k' : Addr) (r w d : Str) (F F' : List (List Int)), vs = [.ref e, .ref e'] ∧ EffAt C CE H e k r w d F ∧ EffAt C CE H e' k' r w d F' ∧ Rw (stN w).length F ∧ Rw (stN w).length F' ∧ ∀ H', Same H H' → Q (.bl ((winL F F' (stN w)).all id)) H'
section
variable {P : Program} {w : World} {K : PySem.W.Frag} {mg : Str → Option Value} {base : Heap} {C CE aW aI : Addr} {mc : Value}
theorem ok_mul {f fT : Addr} {fdT : FuncData} (D : MetAt K CE "__mul__" "Effect.__mul__" s_Effect___mul__ ["self", "other"] f) (TE : ET K mg CE) (ccheck_same_kind : Cal P w K mg base 3 "check_same_kind" (spSK C CE)) (cjoined : Cal P w K mg base 1 "joined" spJoin)
    (ME : Mk K CE fT) (FEI : Gd P w K mg base CX0 1 fT fdT ["self", "kind", "ends"] (spEI CE)) (bEI : Binds K fdT ["self", "kind", "ends"] []) :
    ∃ fd, Meth K CE "__mul__" f ∧ Fun K "__mul__" "Effect.__mul__" s_Effect___mul__ f fd ∧ Binds K fd ["self", "other"] [] ∧ Gd P w K mg base CX0 4 f fd ["self", "other"] (spMul C CE) := by
  refine D.gd (k := 3) sc_Effect___mul__ (fun vs H Q E h => ?_) (fun cdv A outer s H vs Q E rm gd h => ?_)
  · obtain ⟨e, e', k, k', r, wr, d, F, F', rfl, _⟩ := h
    rfl
  · obtain ⟨e, e', k, k', r, wr, d, F, F', rfl, he, he', rF, rF', q⟩ := h
    obtain ⟨dx, t, h1, h2, h3⟩ := id he
    obtain ⟨dx', t', h1', h2', h3'⟩ := id he'
    have cl := TE.cl
    have nK := TE.nK
    have nE := TE.nE
    refine ⟨_, (pss_cons (ps_expr (pc ccheck_same_kind rm (by decide) gd rfl (pa_cons (pv 0) (pa_cons (pv 1) pa_nil))))
    (pss_one (ps_ret (pe_gmake ME FEI (rm.mono (by decide)) gd rfl TE.g_Effect bEI .nil pass0 (pa_cons (pe_fld (pv 0) rfl) (pa_cons (pc cjoined rm (by decide) gd rfl (pa_cons (pe_fld (pv 0) rfl) (pa_cons (pe_fld (pv 1) rfl) pa_nil))) pa_nil)))))), ?_⟩
    walk_at "go"
    refine ⟨e, e', k, k', r, wr, d, F, F', rfl, he, he', ?_⟩
    walk_at "go"
    refine ⟨t, t', F, F', _, rfl, h3, h3', rF, rF', stN_len wr, fun t2 H2 n2 h2j s2 => ?_⟩
    walk_at "go"
    refine make fun y dy H9 ny hy sy => ?_
    refine ⟨y, dy, k, t2, rfl, hy, fun H10 h10 e10 => ⟨rfl, ?_⟩⟩
    have sA : Same H2 H10 := fun b u z => (e10 b (ne_of_none z ny)).trans (sy _ _ z)
    exact q y H10 (back s2 ny) ⟨dy, t2, h10, (h2.sm s2).sm sA, h2j.same sA⟩ (s2.trans sA)
theorem ok_or {f fT : Addr} {fdT : FuncData} (D : MetAt K CE "__or__" "Effect.__or__" s_Effect___or__ ["self", "other"] f) (TE : ET K mg CE) (ccheck_same_kind : Cal P w K mg base 3 "check_same_kind" (spSK C CE)) (ceither : Cal P w K mg base 1 "either" spEither)
    (ME : Mk K CE fT) (FEI : Gd P w K mg base CX0 1 fT fdT ["self", "kind", "ends"] (spEI CE)) (bEI : Binds K fdT ["self", "kind", "ends"] []) :
    ∃ fd, Meth K CE "__or__" f ∧ Fun K "__or__" "Effect.__or__" s_Effect___or__ f fd ∧ Binds K fd ["self", "other"] [] ∧ Gd P w K mg base CX0 4 f fd ["self", "other"] (spOr C CE) := by
  refine D.gd (k := 3) sc_Effect___or__ (fun vs H Q E h => ?_) (fun cdv A outer s H vs Q E rm gd h => ?_)
  · obtain ⟨e, e', k, k', r, wr, d, F, F', rfl, _⟩ := h
    rfl
  · obtain ⟨e, e', k, k', r, wr, d, F, F', rfl, he, he', rF, rF', q⟩ := h
    obtain ⟨dx, t, h1, h2, h3⟩ := id he
    obtain ⟨dx', t', h1', h2', h3'⟩ := id he'
    have cl := TE.cl
    have nK := TE.nK
    have nE := TE.nE
    refine ⟨_, (pss_cons (ps_expr (pc ccheck_same_kind rm (by decide) gd rfl (pa_cons (pv 0) (pa_cons (pv 1) pa_nil))))
    (pss_one (ps_ret (pe_gmake ME FEI (rm.mono (by decide)) gd rfl TE.g_Effect bEI .nil pass0 (pa_cons (pe_fld (pv 0) rfl) (pa_cons (pc ceither rm (by decide) gd rfl (pa_cons (pe_fld (pv 0) rfl) (pa_cons (pe_fld (pv 1) rfl) pa_nil))) pa_nil)))))), ?_⟩
    walk_at "go"
    refine ⟨e, e', k, k', r, wr, d, F, F', rfl, he, he', ?_⟩
    walk_at "go"
    refine ⟨t, t', F, F', _, rfl, h3, h3', rF, rF', stN_len wr, fun t2 H2 n2 h2j s2 => ?_⟩
    walk_at "go"
    refine make fun y dy H9 ny hy sy => ?_
    refine ⟨y, dy, k, t2, rfl, hy, fun H10 h10 e10 => ⟨rfl, ?_⟩⟩
    have sA : Same H2 H10 := fun b u z => (e10 b (ne_of_none z ny)).trans (sy _ _ z)
    exact q y H10 (back s2 ny) ⟨dy, t2, h10, (h2.sm s2).sm sA, h2j.same sA⟩ (s2.trans sA)
theorem ok_win {f : Addr} (D : MetAt K CE "within" "Effect.within" s_Effect_within ["self", "b"] f) (TE : ET K mg CE) (T : KT K w mg C aW aI mc) (gAll : mg "all" = none) (ccheck_same_kind : Cal P w K mg base 3 "check_same_kind" (spSK C CE)) :
    ∃ fd, Meth K CE "within" f ∧ Fun K "within" "Effect.within" s_Effect_within f fd ∧ Binds K fd ["self", "b"] [] ∧ Gd P w K mg base CX0 4 f fd ["self", "b"] (spWin C CE) := by
  refine D.gd (k := 3) sc_Effect_within (fun vs H Q E h => ?_) (fun cdv A outer s H vs Q E rm gd h => ?_)
  · obtain ⟨e, e', k, k', r, wr, d, F, F', rfl, _⟩ := h
    rfl
  · obtain ⟨e, e', k, k', r, wr, d, F, F', rfl, he, he', rF, rF', q⟩ := h
    obtain ⟨dx, t, h1, h2, h3⟩ := id he
    obtain ⟨dx', t', h1', h2', h3'⟩ := id he'
    obtain ⟨dk, st, hk1, hst⟩ := h2.st
    obtain ⟨ts, g1, g2, g3⟩ := id h3
    obtain ⟨ts', g1', g2', g3'⟩ := id h3'
    have clE := TE.cl
    have nK := TE.nK
    have nE := TE.nE
    have clK := T.cl
    have nS := T.nS
    refine ⟨_, (pss_cons (ps_expr (pc ccheck_same_kind rm (by decide) gd rfl (pa_cons (pv 0) (pa_cons (pv 1) pa_nil))))
    (pss_one (ps_ret (show PE _ _ (tCB (rAll K) (tCons (KG.tLc2 (iTup K (tFld K (tFld K (tVar 0) "kind") "states")) (gName 2) tYes (iTup K (tOp (rIxT K) (tFld K (tVar 0) "ends") (tVar 2))) (gName 3) tYes (tOp (rIn K false) (tVar 3) (tOp (rIxT K) (tFld K (tVar 1) "ends") (tVar 2))) [2, 3] [3]) tNil)) from pe_callB (id := "all") (r := rAll K) (cr_all (by rfl)) (by rfl) gAll (by decide +kernel) (pa_cons (KG.pe_lc2 (own := [("state", 2), ("end", 3)]) (vs1 := [3]) (wi := iTup K (tFld K (tFld K (tVar 0) "kind") "states")) (g := gName 2) (tt := tYes) (wi1 := iTup K (tOp (rIxT K) (tFld K (tVar 0) "ends") (tVar 2))) (g1 := gName 3) (tt1 := tYes) (te := tOp (rIn K false) (tVar 3) (tOp (rIxT K) (tFld K (tVar 1) "ends") (tVar 2))) (by rfl) sc_Effect_within.nd (pi_tup (pe_fld (pe_fld (pv 0) rfl) rfl)) (blkOk_by (N := ["self", "b", "state", "end"]) (sc := defScope s_Effect_within) (by decide +kernel)) (by decide) (fun _ _ _ _ _ => (pg_name (i := 2) sc_Effect_within.nd rfl (Or.inl rfl))) (fun _ _ _ _ _ => pts_nil) (fun _ _ _ _ _ => pi_tup (pe_ix (r := rIxT K) ix_tup (pe_fld (pv 0) rfl) (pv 2) (fun _ _ => rfl))) (fun _ _ _ _ _ => (pg_name (i := 3) sc_Effect_within.nd rfl (Or.inl rfl))) (fun _ _ _ _ _ => pts_nil) (fun _ _ _ _ _ => (pe_cmpR (r := rIn K false) op_in_seq (pv 3) (pe_ix (r := rIxT K) ix_tup (pe_fld (pv 1) rfl) (pv 2) (fun _ _ => rfl)) rfl))) pa_nil))))), ?_⟩
    walk_at "go"
    refine ⟨e, e', k, k', r, wr, d, F, F', rfl, he, he', ?_⟩
    walk_at "go"
    refine w_lc2 ?_
    walk_at "go"
    refine over_t (SqT.of hst) ?_
    intro D nD
    have zD : Same H (upd H D (.lst [])) := fun b u e => by
      rw [upd_ne (ne_of_none e nD)]
      exact e
    have wl : ∀ l : List Int, (winL F F' l).length ≤ 4 * l.length := fun l => by
      induction l with
      | nil => exact Nat.le_refl _
      | cons a l ih =>
        have : (F.getD a.toNat []).length ≤ 4 := by
          rw [List.getD_eq_getElem?_getD]
          cases z : F[a.toNat]? with
          | none => exact Nat.zero_le _
          | some x => exact rF.few x (List.mem_of_getElem? z)
        unfold winL at ih ⊢
        rw [List.flatMap_cons, List.length_append, List.length_map, List.length_cons]
        omega
    refine cl_tup (K := K) (a := st) (xs := (stN wr).map V.int) (fun i H' => H' D = some (.lst ((winL F F' ((stN wr).take i)).map V.bl)) ∧ Same H H') ⟨upd_same, zD⟩ (fun i H' _ ⟨_, s⟩ => SqT.of (s _ _ hst)) (fun i y H1 hy ⟨hD, s1⟩ => ?_) (fun H1 ⟨hD, s1⟩ => ?_)
    · obtain ⟨s, hs, rfl⟩ := ints_at hy
      obtain rfl := stN_at hs
      have hi := (List.getElem?_eq_some_iff.mp hs).1
      have i4 := Nat.lt_of_lt_of_le hi (stN_len wr)
      have hiF : i < F.length := by rw [rF.len]; exact hi
      have hiF' : i < F'.length := by rw [rF'.len]; exact hi
      obtain ⟨e1, he1⟩ : ∃ row, F[i]? = some row := ⟨_, List.getElem?_eq_getElem hiF⟩
      obtain ⟨e2, he2⟩ : ∃ row, F'[i]? = some row := ⟨_, List.getElem?_eq_getElem hiF'⟩
      obtain ⟨a, ha⟩ : ∃ a, ts[i]? = some a := ⟨_, List.getElem?_eq_getElem (by omega)⟩
      obtain ⟨b, hb⟩ : ∃ a, ts'[i]? = some a := ⟨_, List.getElem?_eq_getElem (by omega)⟩
      have r4 := rF.few e1 (List.mem_of_getElem? he1)
      have ra := g3 i a e1 ha he1
      have rb := g3' i b e2 hb he2
      have h1s := s1 _ _ h1
      have q1 : F.getD ((i : Int)).toNat [] = e1 := by rw [Int.toNat_natCast, List.getD_eq_getElem?_getD, he1]; rfl
      have q2 : F'.getD ((i : Int)).toNat [] = e2 := by rw [Int.toNat_natCast, List.getD_eq_getElem?_getD, he2]; rfl
      have tk : (stN wr).take (i + 1) = (stN wr).take i ++ [(i : Int)] := by
        rw [List.take_add_one, hs]
        rfl
      have wsn : winL F F' ((stN wr).take (i + 1)) = winL F F' ((stN wr).take i) ++ e1.map fun k => e2.contains k := by
        rw [tk]
        unfold winL
        rw [List.flatMap_append, List.flatMap_cons, List.flatMap_nil, List.append_nil, q1, q2]
      have wli := wl ((stN wr).take i)
      rw [List.length_take] at wli
      walk_at "go"
      refine ⟨rfl, ?_⟩
      try unfold tYes
      refine iteT ?_
      unfold tNext1
      walk_at "go"
      refine w_ixT (SqT.of (s1 _ _ g1)) (v := .ref a) (atI_nat (by rw [List.getElem?_map, ha]; rfl)) ?_
      refine over_t (SqT.of (s1 _ _ ra)) ?_
      refine cl_tup (K := K) (a := a) (xs := e1.map V.int) (fun j H' => H' D = some (.lst ((winL F F' ((stN wr).take i) ++ (e1.take j).map fun k => e2.contains k).map V.bl)) ∧ Same H H') ⟨by rw [List.take_zero, List.map_nil, List.append_nil]; exact hD, s1⟩ (fun j H' _ ⟨_, s⟩ => SqT.of (s _ _ ra)) (fun j y H2 hy2 ⟨hD2, s2⟩ => ?_) (fun H2 ⟨hD2, s2⟩ => ?_)
      · obtain ⟨v, hv, rfl⟩ := ints_at hy2
        have hj := (List.getElem?_eq_some_iff.mp hv).1
        have h1s' := s2 _ _ h1'
        walk_at "go"
        refine ⟨rfl, ?_⟩
        try unfold tYes
        refine iteT ?_
        unfold KG.tAppL
        walk_at "go"
        refine w_ixT (SqT.of (s2 _ _ g1')) (v := .ref b) (atI_nat (by rw [List.getElem?_map, hb]; rfl)) ?_
        refine w_in (.inr (SqT.of (s2 _ _ rb))) rfl (flat_ints _) ?_
        rw [if_neg (by decide), inV_ints]
        refine ⟨_, hD2, big_of (by rw [List.length_map, List.length_append, List.length_map, List.length_take]; omega), ?_, fun q o z => ?_⟩
        · rw [upd_same, List.take_add_one, hv]
          simp only [Option.toList_some, List.map_append, List.append_assoc]
          rfl
        · rw [upd_ne (ne_of_none z nD)]
          exact s2 _ _ z
      · rw [List.length_map, List.take_length] at hD2
        rw [wsn]
        exact ⟨hD2, s2⟩
    · rw [List.length_map, List.take_length] at hD
      walk_at "go"
      exact ⟨D, _, rfl, SqL.of hD, q _ s1⟩
end
end Law

set_option Elab.async false
set_option linter.all false
set_option maxRecDepth 100000
set_option maxHeartbeats 4000000
namespace Law
open PySem PySem.Spec PySem.Calls PyProof.Rows L2 KG LamX
local macro_rules | `(tactic| walk_at "1") => `(tactic| first
  | (with_reducible refine w_var rfl ?_) | (with_reducible refine w_c ?_) | (with_reducible refine w_seq ?_) | (with_reducible refine w_asg ?_) | (with_reducible refine w_gname ?_) | (with_reducible refine w_op ?_) | (with_reducible refine w_un ?_)
  | (with_reducible refine w_add ?_) | (with_reducible refine w_sub ?_) | ((with_reducible refine' w_mod ?mo ?_); (case mo => first | assumption | decide | omega)) | (with_reducible refine w_and ?_) | (with_reducible refine w_or ?_) | (with_reducible refine w_xor ?_)
  | (with_reducible refine w_gt ?_) | (with_reducible refine w_lt ?_) | (with_reducible refine w_ge ?_) | (with_reducible refine w_le ?_) | ((with_reducible refine' w_eq ?sc ?_); (case sc => rfl)) | ((with_reducible refine' w_ne ?sc ?_); (case sc => rfl))
  | (with_reducible refine w_ret ?_) | (with_reducible refine w_next ?_) | (with_reducible refine w_ifs ?_) | (with_reducible refine w_ifx ?_) | (with_reducible refine w_test ?_) | (with_reducible refine w_tB ?_) | (with_reducible refine w_bl ?_)
  | ((with_reducible refine' w_ixL ?ixh ?ixa ?_); (case ixh => first | exact SqL.of (by assumption)); (case ixa => first | rfl | skip)) | ((with_reducible refine' w_ixT ?ixh ?ixa ?_); (case ixh => first | exact SqT.of (by assumption)); (case ixa => first | rfl | skip))
  | ((with_reducible refine' w_fld ?_)) | ((with_reducible refine' fld ?fh ?fc ?fn ?fl ?_); (case fh => assumption); (case fc => assumption); (case fn => assumption); (case fl => rfl)) | (with_reducible refine w_sfld ?_)
  | (with_reducible refine Or.inl ⟨_, rfl, ?_⟩) | (with_reducible refine w_gsub ?_) | (with_reducible refine w_andV ?_) | (with_reducible refine w_orV ?_)
  | (with_reducible refine w_nil ?_) | (with_reducible refine w_cons ?_) | (with_reducible refine w_tup ?_) | (with_reducible refine w_lst ?_) | (with_reducible refine w_and2 ?_) | (with_reducible refine w_or2 ?_) | (with_reducible refine w_not ?_) | (with_reducible refine w_cb ?_) | (with_reducible refine w_call ?_) | (with_reducible refine w_par ?_) | (with_reducible refine w_pnil ?_) | (with_reducible refine w_pcons ?_) | (with_reducible refine w_dput ?_) | (with_reducible refine w_dget ?_) | (with_reducible refine w_for ?_) | (with_reducible refine w_itup ?_) | (with_reducible refine w_ilist ?_) | (with_reducible refine w_irng ?_) | (with_reducible refine w_meth ?_) | (with_reducible refine w_make ?_) | (with_reducible refine w_makeK ?_) | (with_reducible refine w_methK ?_) | ((with_reducible refine' mth ?mh ?ml ?_); (case mh => assumption); (case ml => rfl)) | (with_reducible refine w_drop ?_))
local macro_rules | `(tactic| walk_at "go") => `(tactic| ((repeat (walk_at "1")); try dsimp only))
local macro_rules | `(tactic| walk_at "1") => `(tactic| first
  | (with_reducible refine w_notV ?_) | (with_reducible refine w_callK ?_) | (with_reducible refine w_lc ?_) | (with_reducible refine w_chain ?_) | (with_reducible refine w_neg ?_) | ((with_reducible refine' w_shr ?mo ?_); (case mo => first | assumption | omega)))
def parP (F G : List (List Int)) (s k : Int) : Bool := (F.getD s.toNat []).contains k != (G.getD s.toNat []).contains k
def parR (w : Str) (F G : List (List Int)) : Option (Int × Int) := (stN w).findSome? fun s => ((stN w).find? fun k => parP F G s k).map fun k => (s, k)
def spPar (C CE : Addr) : Sp := fun vs H Q _ => ∃ (e e' k k' : Addr) (r w d : Str) (F F' : List (List Int)), vs = [.ref e, .ref e'] ∧ EffAt C CE H e k r w d F ∧ EffAt C CE H e' k' r w d F' ∧ Rw (stN w).length F ∧ Rw (stN w).length F' ∧
  (parR w F F' = none → ∀ H', Same H H' → Q .non H') ∧ (∀ s m, parR w F F' = some (s, m) → ∀ t H', H t = none → H' t = some (.tup [.int s, .int m]) → Same H H' → Q (.ref t) H')
theorem parR_at {w : Str} {F G : List (List Int)} {i j : Nat} {s m : Int} (hs : (stN w)[i]? = some s) (hm : (stN w)[j]? = some m) (b : ∀ s' ∈ (stN w).take i, ∀ m' ∈ stN w, parP F G s' m' = false) (c : ∀ m' ∈ (stN w).take j, parP F G s m' = false) (h : parP F G s m = true) : parR w F G = some (s, m) := by
  have cut : ∀ {α : Type} (l : List α) (n : Nat) (x : α), l[n]? = some x → l = l.take n ++ x :: l.drop (n + 1) := fun l n x e => by
    obtain ⟨lt, e2⟩ := List.getElem?_eq_some_iff.mp e
    rw [← e2, List.getElem_cons_drop, List.take_append_drop]
  have f1 : (stN w).find? (fun k => parP F G s k) = some m := by
    rw [cut _ j m hm, List.find?_append, List.find?_eq_none.mpr fun x hx => by rw [c x hx]; decide, List.find?_cons, h]
    rfl
  unfold parR
  generalize hf : (fun s => ((stN w).find? fun k => parP F G s k).map fun k => (s, k)) = f
  have f2 : f s = some (s, m) := by
    rw [← hf]
    show ((stN w).find? fun k => parP F G s k).map (fun k => (s, k)) = _
    rw [f1]
    rfl
  have f3 : ((stN w).take i).findSome? f = none := List.findSome?_eq_none_iff.mpr fun x hx => by
    rw [← hf]
    show ((stN w).find? fun k => parP F G x k).map (fun k => (x, k)) = none
    rw [List.find?_eq_none.mpr fun m' hm' => by rw [b x hx m' hm']; decide]
    rfl
  rw [cut _ i s hs, List.findSome?_append, f3, List.findSome?_cons, f2]
  rfl
theorem parR_none {w : Str} {F G : List (List Int)} (b : ∀ s' ∈ stN w, ∀ m' ∈ stN w, parP F G s' m' = false) : parR w F G = none :=
  List.findSome?_eq_none_iff.mpr fun x hx => by
    rw [List.find?_eq_none.mpr fun m' hm' => by rw [b x hx m' hm']; decide]
    rfl
section
variable {P : Program} {w : World} {K : PySem.W.Frag} {mg : Str → Option Value} {base : Heap} {C CE aW aI : Addr} {mc : Value}
theorem ok_parG {f : Addr} {fd : FuncData} (Fn : Fun K "effect_parting" "effect_parting" s_effect_parting f fd) (TE : ET K mg CE) (T : KT K w mg C aW aI mc) (ccheck_same_kind : Cal P w K mg base 3 "check_same_kind" (spSK C CE)) :
    Gd P w K mg base CX0 4 f fd ["a", "b"] (spPar C CE) := by
  refine gd0 (k := 3) Fn sc_effect_parting (fun vs H Q E h => ?_) (fun cdv A outer s0 H vs Q E rm gd h => ?_)
  · obtain ⟨e, e', k, k', r, wr, d, F, F', rfl, _⟩ := h
    rfl
  · obtain ⟨e, e', k, k', r, wr, d, F, F', rfl, he, he', rF, rF', qn, qs⟩ := h
    obtain ⟨dx, t, h1, h2, h3⟩ := id he
    obtain ⟨dx', t', h1', h2', h3'⟩ := id he'
    obtain ⟨dk, st, hk1, hst⟩ := h2.st
    obtain ⟨ts, g1, g2, g3⟩ := id h3
    obtain ⟨ts', g1', g2', g3'⟩ := id h3'
    have clE := TE.cl
    have nK := TE.nK
    have nE := TE.nE
    have clK := T.cl
    have nS := T.nS
    refine ⟨_, (pss_cons (ps_expr (pc ccheck_same_kind rm (by decide) gd rfl (pa_cons (pv 0) (pa_cons (pv 1) pa_nil))))
    (pss_cons (ps_for PassesOwn.never rfl (pi_tup (pe_fld (pe_fld (pv 0) rfl) rfl)) (pg_name (i := 2) sc_effect_parting.nd rfl (Or.inl rfl))
      (pss_one (ps_for PassesOwn.never rfl (pi_tup (pe_fld (pe_fld (pv 0) rfl) rfl)) (pg_name (i := 3) sc_effect_parting.nd rfl (Or.inl rfl))
        (pss_one (ps_if (pt_cmpR op_ne (pe_cmpR op_in_seq (pv 3) (pe_ix ix_tup (pe_fld (pv 0) rfl) (pv 2) (fun _ _ => rfl)) rfl) (pe_cmpR op_in_seq (pv 3) (pe_ix ix_tup (pe_fld (pv 1) rfl) (pv 2) (fun _ _ => rfl)) rfl) (nomark _))
          (pss_one (ps_ret (pe_tup (pa_cons (pv 2) (pa_cons (pv 3) pa_nil)))))
          pss_nil)))))
    (pss_one (ps_ret pe_non)))), ?_⟩
    walk_at "go"
    refine ⟨e, e', k, k', r, wr, d, F, F', rfl, he, he', ?_⟩
    walk_at "go"
    refine over_t (SqT.of hst) ?_
    refine for_tup (K := K) (a := st) (xs := (stN wr).map V.int) (fun i σ H' => (∃ v2 v3, σ = [some (.ref e), some (.ref e'), v2, v3]) ∧ H' = H ∧ ∀ s' ∈ (stN wr).take i, ∀ m' ∈ stN wr, parP F F' s' m' = false) ⟨⟨none, none, rfl⟩, rfl, fun s' hs' => by simp at hs'⟩ (fun i σ H' _ ⟨_, s, _⟩ => by rw [s]; exact SqT.of hst) (fun i y σ H1 hy ⟨⟨v2, v3, eσ⟩, eH, b⟩ => ?_) (fun σ H1 ⟨⟨v2, v3, eσ⟩, eH, b⟩ => ?_)
    · subst eσ
      subst eH
      obtain ⟨s, hs, rfl⟩ := ints_at hy
      have hs0 := hs
      obtain rfl := stN_at hs
      have hi := (List.getElem?_eq_some_iff.mp hs).1
      have hiF : i < F.length := by rw [rF.len]; exact hi
      have hiF' : i < F'.length := by rw [rF'.len]; exact hi
      obtain ⟨e1, he1⟩ : ∃ row, F[i]? = some row := ⟨_, List.getElem?_eq_getElem hiF⟩
      obtain ⟨e2, he2⟩ : ∃ row, F'[i]? = some row := ⟨_, List.getElem?_eq_getElem hiF'⟩
      obtain ⟨a, ha⟩ : ∃ a, ts[i]? = some a := ⟨_, List.getElem?_eq_getElem (by omega)⟩
      obtain ⟨b2, hb⟩ : ∃ a, ts'[i]? = some a := ⟨_, List.getElem?_eq_getElem (by omega)⟩
      have ra := g3 i a e1 ha he1
      have rb := g3' i b2 e2 hb he2
      have q1 : F.getD ((i : Int)).toNat [] = e1 := by rw [Int.toNat_natCast, List.getD_eq_getElem?_getD, he1]; rfl
      have q2 : F'.getD ((i : Int)).toNat [] = e2 := by rw [Int.toNat_natCast, List.getD_eq_getElem?_getD, he2]; rfl
      have tk : (stN wr).take (i + 1) = (stN wr).take i ++ [(i : Int)] := by
        rw [List.take_add_one, hs]
        rfl
      walk_at "go"
      refine over_t (SqT.of hst) ?_
      refine for_tup (K := K) (a := st) (xs := (stN wr).map V.int) (fun j σ H' => (∃ v3, σ = [some (.ref e), some (.ref e'), some (.int i), v3]) ∧ H' = H1 ∧ ∀ m' ∈ (stN wr).take j, parP F F' i m' = false) ⟨⟨_, rfl⟩, rfl, fun s' hs' => by simp at hs'⟩ (fun i σ H' _ ⟨_, s, _⟩ => by rw [s]; exact SqT.of hst) (fun j y σ H2 hy2 ⟨⟨v3, eσ⟩, eH, c⟩ => ?_) (fun σ H2 ⟨⟨v3, eσ⟩, eH, c⟩ => ?_)
      · subst eσ
        subst eH
        obtain ⟨m, hm, rfl⟩ := ints_at hy2
        have hm1 : (stN wr).take (j + 1) = (stN wr).take j ++ [m] := by
          rw [List.take_add_one, hm]
          rfl
        walk_at "go"
        refine w_ixT (SqT.of g1) (v := .ref a) (atI_nat (by rw [List.getElem?_map, ha]; rfl)) ?_
        refine w_in (.inr (SqT.of ra)) rfl (flat_ints _) ?_
        rw [if_neg (by decide), inV_ints]
        walk_at "go"
        refine w_ixT (SqT.of g1') (v := .ref b2) (atI_nat (by rw [List.getElem?_map, hb]; rfl)) ?_
        refine w_in (.inr (SqT.of rb)) rfl (flat_ints _) ?_
        rw [if_neg (by decide), inV_ints]
        walk_at "go"
        have eP : parP F F' i m = (!decide (V.bl (e1.contains m) = V.bl (e2.contains m))) := by
          unfold parP
          rw [q1, q2]
          cases e1.contains m <;> cases e2.contains m <;> rfl
        rw [← eP]
        cases hP : parP F F' i m with
        | true =>
          refine iteT ?_
          walk_at "go"
          refine new (show 2 ≤ sizeLine by decide) fun t H3 nt ht st3 => ?_
          exact qs _ _ (parR_at hs hm b c hP) t H3 nt ht st3
        | false =>
          refine iteF ?_
          refine ⟨⟨_, rfl⟩, rfl, fun m' hm' => ?_⟩
          rw [hm1] at hm'
          rcases List.mem_append.mp hm' with hm' | hm'
          · exact c m' hm'
          · rw [List.mem_singleton.mp hm']
            exact hP
      · rw [List.length_map, List.take_length] at c
        subst eσ
        subst eH
        refine ⟨⟨_, _, rfl⟩, rfl, fun s' hs' m' hm' => ?_⟩
        rw [tk] at hs'
        rcases List.mem_append.mp hs' with hs' | hs'
        · exact b s' hs' m' hm'
        · rw [List.mem_singleton.mp hs']
          exact c m' hm'
    · rw [List.length_map, List.take_length] at b
      subst eσ
      subst eH
      walk_at "go"
      exact qn (parR_none b) _ fun _ _ z => z
theorem ok_par (D : DefAt K mg "effect_parting" s_effect_parting ["a", "b"]) (TE : ET K mg CE) (T : KT K w mg C aW aI mc) (ccheck_same_kind : Cal P w K mg base 3 "check_same_kind" (spSK C CE)) :
    Cal P w K mg base 4 "effect_parting" (spPar C CE) := by
  obtain ⟨f, fd, a, F, b⟩ := D.ex
  exact ⟨f, fd, _, a, F.kp, b, ok_parG F TE T ccheck_same_kind⟩
end
end Law

set_option Elab.async false
set_option linter.all false
set_option maxRecDepth 100000
set_option maxHeartbeats 4000000
namespace Law
open PySem PySem.Spec PySem.Calls PyProof.Rows L2 KG LamX
local macro_rules | `(tactic| walk_at "1") => `(tactic| first
  | (with_reducible refine w_var rfl ?_) | (with_reducible refine w_c ?_) | (with_reducible refine w_seq ?_) | (with_reducible refine w_asg ?_) | (with_reducible refine w_gname ?_) | (with_reducible refine w_op ?_) | (with_reducible refine w_un ?_)
  | (with_reducible refine w_add ?_) | (with_reducible refine w_sub ?_) | ((with_reducible refine' w_mod ?mo ?_); (case mo => first | assumption | decide | omega)) | (with_reducible refine w_and ?_) | (with_reducible refine w_or ?_) | (with_reducible refine w_xor ?_)
  | (with_reducible refine w_gt ?_) | (with_reducible refine w_lt ?_) | (with_reducible refine w_ge ?_) | (with_reducible refine w_le ?_) | ((with_reducible refine' w_eq ?sc ?_); (case sc => rfl)) | ((with_reducible refine' w_ne ?sc ?_); (case sc => rfl))
  | (with_reducible refine w_ret ?_) | (with_reducible refine w_next ?_) | (with_reducible refine w_ifs ?_) | (with_reducible refine w_ifx ?_) | (with_reducible refine w_test ?_) | (with_reducible refine w_tB ?_) | (with_reducible refine w_bl ?_)
  | ((with_reducible refine' w_ixL ?ixh ?ixa ?_); (case ixh => first | exact SqL.of (by assumption)); (case ixa => first | rfl | skip)) | ((with_reducible refine' w_ixT ?ixh ?ixa ?_); (case ixh => first | exact SqT.of (by assumption)); (case ixa => first | rfl | skip))
  | ((with_reducible refine' w_fld ?_)) | ((with_reducible refine' fld ?fh ?fc ?fn ?fl ?_); (case fh => assumption); (case fc => assumption); (case fn => assumption); (case fl => rfl)) | (with_reducible refine w_sfld ?_)
  | (with_reducible refine Or.inl ⟨_, rfl, ?_⟩) | (with_reducible refine w_gsub ?_) | (with_reducible refine w_andV ?_) | (with_reducible refine w_orV ?_)
  | (with_reducible refine w_nil ?_) | (with_reducible refine w_cons ?_) | (with_reducible refine w_tup ?_) | (with_reducible refine w_lst ?_) | (with_reducible refine w_and2 ?_) | (with_reducible refine w_or2 ?_) | (with_reducible refine w_not ?_) | (with_reducible refine w_cb ?_) | (with_reducible refine w_call ?_) | (with_reducible refine w_par ?_) | (with_reducible refine w_pnil ?_) | (with_reducible refine w_pcons ?_) | (with_reducible refine w_dput ?_) | (with_reducible refine w_dget ?_) | (with_reducible refine w_for ?_) | (with_reducible refine w_itup ?_) | (with_reducible refine w_ilist ?_) | (with_reducible refine w_irng ?_) | (with_reducible refine w_meth ?_) | (with_reducible refine w_make ?_) | (with_reducible refine w_makeK ?_) | (with_reducible refine w_methK ?_) | ((with_reducible refine' mth ?mh ?ml ?_); (case mh => assumption); (case ml => rfl)) | (with_reducible refine w_drop ?_))
local macro_rules | `(tactic| walk_at "go") => `(tactic| ((repeat (walk_at "1")); try dsimp only))
local macro_rules | `(tactic| walk_at "1") => `(tactic| first
  | (with_reducible refine w_notV ?_) | (with_reducible refine w_callK ?_) | (with_reducible refine w_lc ?_) | (with_reducible refine w_chain ?_) | (with_reducible refine w_neg ?_) | ((with_reducible refine' w_shr ?mo ?_); (case mo => first | assumption | omega)))
theorem putR_eq (F G : List (List Int)) : (F.map fun e => asc (e.flatMap fun m => G.getD m.toNat [])) = joinR F G := by
  unfold joinR
  refine List.map_congr_left fun e _ => ?_
  unfold asc
  refine congrArg pick (funext fun k => ?_)
  rw [Bool.eq_iff_iff, List.contains_iff_mem, List.mem_flatMap, List.any_eq_true]
  simp only [List.contains_iff_mem]
section
variable {P : Program} {w : World} {K : PySem.W.Frag} {mg : Str → Option Value} {base : Heap}
theorem ok_put (D : DefAt K mg "_law_put" s__law_put ["_law_first", "_law_second"]) (B : B1 mg) : Cal P w K mg base 1 "_law_put" spJoin := by
  refine D.cal sc__law_put (fun vs H Q E h => ?_) (fun f cdv A outer s0 H vs Q E rm gd h => ?_)
  · obtain ⟨f, g, F, G, n, rfl, _⟩ := h
    rfl
  · obtain ⟨f, g, F, G, n, rfl, hF, hG, rF, rG, n4, q⟩ := h
    rw [← putR_eq] at q
    refine ⟨_, (pss_cons (ps_set (i := 2) sc__law_put.nd rfl (Or.inl rfl) (pe_lst pa_nil))
    (pss_cons (ps_for PassesOwn.never rfl (pi_tup (pv 0)) (pg_name (i := 3) sc__law_put.nd rfl (Or.inl rfl))
      (pss_cons (ps_set (i := 4) sc__law_put.nd rfl (Or.inl rfl) (pe_lst pa_nil))
      (pss_cons (ps_for PassesOwn.never rfl (pi_tup (pv 3)) (pg_name (i := 5) sc__law_put.nd rfl (Or.inl rfl))
        (pss_one (ps_set (i := 4) sc__law_put.nd rfl (Or.inl rfl) (pe_op op_cat (pv 4) (pe_callTy cr_listOf (by rfl) B.g_list (by decide +kernel) (pa_cons (pe_ix ix_tup (pv 1) (pv 5) (fun _ _ => rfl)) pa_nil))))))
      (pss_one (ps_expr (pe_bm PySem.F.plainAttrs_list PySem.F.slot_list_append PySem.F.type_list_append mt_append (pv 2) (pa_cons (pe_callTy call_tuple_of (by rfl) B.g_tuple (by decide +kernel) (pa_cons (pe_callB (cr_sortedSet rfl) (by rfl) B.g_sorted (by decide +kernel) (pa_cons (pe_callTy (cr_setI rfl) (by rfl) B.g_set (by decide +kernel) (pa_cons (pv 4) pa_nil)) pa_nil)) pa_nil)) pa_nil)))))))
    (pss_one (ps_ret (pe_callTy call_tuple_of (by rfl) B.g_tuple (by decide +kernel) (pa_cons (pv 2) pa_nil)))))), ?_⟩
    obtain ⟨tf, f1, f2, f3⟩ := id hF
    obtain ⟨tg, g1, g2, g3⟩ := id hG
    walk_at "go"
    refine new (show 0 ≤ sizeLine by decide) fun D H1 n1 h1 s1 => ?_
    walk_at "go"
    refine over_t (SqT.of (s1 _ _ f1)) ?_
    generalize hU : (F.map fun e => asc (e.flatMap fun m => G.getD m.toNat [])) = U at q
    refine for_tup (K := K) (a := f) (xs := tf.map V.ref) (fun i σ H' => (∃ v3 v4 v5, σ = [some (.ref f), some (.ref g), some (.ref D), v3, v4, v5]) ∧ RowsL H' D (U.take i) ∧ Same H H') ⟨⟨none, none, none, rfl⟩, .nil h1, s1⟩ (fun i σ H' _ ⟨_, _, s⟩ => SqT.of (s _ _ f1)) (fun i y σ H2 hy ⟨⟨v3, v4, v5, eσ⟩, hD, s2⟩ => ?_) (fun σ H2 ⟨⟨v3, v4, v5, eσ⟩, hD, s2⟩ => ?_)
    · subst eσ
      rw [List.getElem?_map] at hy
      obtain ⟨a, ha, rfl⟩ := Option.map_eq_some_iff.mp hy
      have i1 := (List.getElem?_eq_some_iff.mp ha).1
      obtain ⟨e, he⟩ : ∃ e, F[i]? = some e := ⟨_, List.getElem?_eq_getElem (by omega)⟩
      have har := f3 i a e ha he
      have e4 := rF.few e (List.mem_of_getElem? he)
      have hUi : U[i]? = some (asc (e.flatMap fun m => G.getD m.toNat [])) := by
        rw [← hU, List.getElem?_map, he]
        rfl
      have gl : ∀ m : Int, (G.getD m.toNat []).length ≤ 4 ∧ ∀ k ∈ G.getD m.toNat [], 0 ≤ k ∧ k < 4 := fun m => by
        rw [List.getD_eq_getElem?_getD]
        cases z : G[m.toNat]? with
        | none => exact ⟨Nat.zero_le _, fun k hk => by cases hk⟩
        | some x => exact ⟨rG.few x (List.mem_of_getElem? z), fun k hk => by
            have := rG.bd x (List.mem_of_getElem? z) k hk
            omega⟩
      have fm : ∀ l : List Int, (l.flatMap fun m => G.getD m.toNat []).length ≤ 4 * l.length := fun l => by
        induction l with
        | nil => exact Nat.le_refl _
        | cons x l ih =>
          rw [List.flatMap_cons, List.length_append, List.length_cons]
          have := (gl x).1
          omega
      walk_at "go"
      refine new (show 0 ≤ sizeLine by decide) fun c0 H3 n3 h3 s3 => ?_
      walk_at "go"
      have s23 := s2.trans s3
      refine over_t (SqT.of (s23 _ _ har)) ?_
      refine for_tup (K := K) (a := a) (xs := e.map V.int) (fun j σ H' => (∃ ce v5, σ = [some (.ref f), some (.ref g), some (.ref D), some (.ref a), some (.ref ce), v5] ∧ H' ce = some (.lst (((e.take j).flatMap fun m => G.getD m.toNat []).map V.int))) ∧ Same H2 H') ⟨⟨c0, _, rfl, h3⟩, s3⟩ (fun j σ H' _ ⟨_, s⟩ => SqT.of ((s2.trans s) _ _ har)) (fun j y σ H4 hy4 ⟨⟨ce, v5', eσ, hce⟩, s4⟩ => ?_) (fun σ H4 ⟨⟨ce, v5', eσ, hce⟩, s4⟩ => ?_)
      · subst eσ
        obtain ⟨m, hm, rfl⟩ := ints_at hy4
        have j4 := (List.getElem?_eq_some_iff.mp hm).1
        obtain ⟨b0, b1⟩ := rF.bd e (List.mem_of_getElem? he) m (List.mem_of_getElem? hm)
        obtain ⟨mn, rfl⟩ := Int.eq_ofNat_of_zero_le b0
        have hmG : mn < G.length := by rw [rG.len]; omega
        obtain ⟨row, hrow⟩ : ∃ row, G[mn]? = some row := ⟨_, List.getElem?_eq_getElem hmG⟩
        obtain ⟨b, hb⟩ : ∃ b, tg[mn]? = some b := ⟨_, List.getElem?_eq_getElem (by omega)⟩
        have eG : G.getD ((mn : Int)).toNat [] = row := by rw [Int.toNat_natCast, List.getD_eq_getElem?_getD, hrow]; rfl
        have s24 := s2.trans s4
        have hbr := s24 _ _ (g3 mn b row hb hrow)
        have fmj := fm (e.take j)
        rw [List.length_take] at fmj
        have r4 := rG.few row (List.mem_of_getElem? hrow)
        walk_at "go"
        refine w_ixT (SqT.of (s24 _ _ g1)) (v := .ref b) (atI_nat (by rw [List.getElem?_map, hb]; rfl)) ?_
        walk_at "go"
        refine ⟨b, _, rfl, .inr (SqT.of hbr), fun l5 n5 => ?_⟩
        have s5 : Same H4 (upd H4 l5 (.lst (row.map V.int))) := fun b o z => by
          rw [upd_ne (ne_of_none z n5)]
          exact z
        have h5 : upd H4 l5 (.lst (row.map V.int)) l5 = some (.lst (row.map V.int)) := upd_same
        dsimp only
        generalize upd H4 l5 (.lst (row.map V.int)) = H5 at s5 h5
        walk_at "go"
        refine ⟨ce, l5, _, _, rfl, rfl, s5 _ _ hce, h5, Nat.le_trans (show _ ≤ 100 by rw [List.length_map, List.length_map]; omega) (by decide), fun p6 n6 => ?_⟩
        walk_at "go"
        refine ⟨⟨p6, _, rfl, ?_⟩, s4.trans (s5.trans fun b o z => ?_)⟩
        · rw [upd_same, List.take_add_one, hm, Option.toList_some, List.flatMap_append, List.flatMap_cons, List.flatMap_nil, List.append_nil, eG, List.map_append]
        · rw [upd_ne (ne_of_none z n6)]
          exact z
      · subst eσ
        rw [List.length_map, List.take_length] at hce
        obtain ⟨xs, hx⟩ := hD.at_
        have s24 := s2.trans s4
        have fme := fm e
        generalize hE : (e.flatMap fun m => G.getD m.toNat []) = E1 at hce hUi fme
        have b4 : ∀ k ∈ E1, 0 ≤ k ∧ k < 4 := fun k hk => by
          rw [← hE] at hk
          obtain ⟨m, _, hk⟩ := List.mem_flatMap.mp hk
          exact (gl m).2 k hk
        walk_at "go"
        unfold tBM
        walk_at "go"
        refine ⟨.inl ⟨rfl, _, SqL.of (s4 _ _ hx)⟩, ?_⟩
        walk_at "go"
        refine ⟨ce, E1, rfl, SqL.of hce, by omega, fun aS c na hc => ?_⟩
        have x1 : Same H4 (upd H4 aS (SetO w aS (fun j => decide (j ∈ E1)) c)) := fun b o e => by
          rw [upd_ne (ne_of_none e na)]
          exact e
        have i1 : upd H4 aS (SetO w aS (fun j => decide (j ∈ E1)) c) aS = some (SetO w aS (fun j => decide (j ∈ E1)) c) := upd_same
        show _root_.L2.tNil _ (upd H4 aS (SetO w aS (fun j => decide (j ∈ E1)) c)) _
        generalize upd H4 aS (SetO w aS (fun j => decide (j ∈ E1)) c) = H5 at x1 i1
        walk_at "go"
        refine ⟨aS, _, c, rfl, i1, by omega, fun ns p4 pw hm _ np => ?_⟩
        have ens : ns = asc E1 := asc_pick pw hm fun k => by
          rw [decide_eq_true_eq, List.contains_iff_mem]
          exact ⟨fun z => ⟨b4 k z, z⟩, fun z => z.2⟩
        subst ens
        have x2 : Same H5 (upd H5 p4 (.lst ((asc E1).map V.int))) := fun b o e => by
          rw [upd_ne (ne_of_none e np)]
          exact e
        have hp4 : upd H5 p4 (.lst ((asc E1).map V.int)) p4 = some (.lst ((asc E1).map V.int)) := upd_same
        generalize upd H5 p4 (.lst ((asc E1).map V.int)) = H6 at x2 hp4 ⊢
        walk_at "go"
        refine ⟨p4, _, rfl, .inl ⟨SqL.of hp4, fun q7 nq => ?_⟩⟩
        have x3 : Same H6 (upd H6 q7 (.tup ((asc E1).map V.int))) := fun b o e => by
          rw [upd_ne (ne_of_none e nq)]
          exact e
        have sA := s4.trans (x1.trans (x2.trans x3))
        have lU : U.length = n := by rw [← hU, List.length_map, rF.len]
        obtain ⟨acc, j1, j2, j3⟩ := (hD.same sA).snoc (row := asc E1) (t := q7) upd_same
        rw [List.length_take] at j2
        walk_at "go"
        refine ⟨D, acc, .ref q7, rfl, rfl, j1, big_of (by omega), ?_⟩
        walk_at "go"
        refine ⟨⟨_, _, _, rfl⟩, by rw [List.take_add_one, hUi]; exact j3, fun b u z => ?_⟩
        rw [upd_ne (ne_of_none z n1)]
        exact sA _ _ (s2 _ _ z)
    · subst eσ
      rw [List.length_map, show tf.length = U.length by rw [← hU, List.length_map, f2], List.take_length] at hD
      walk_at "go"
      obtain ⟨xs, hx⟩ := hD.at_
      refine ⟨D, xs, rfl, .inl ⟨SqL.of hx, fun l nl => ?_⟩⟩
      obtain ⟨xs', hx', _, h3⟩ := hD.tup nl
      rw [hx] at hx'
      cases hx'
      exact q l _ (back s2 nl) h3 (s2.trans fun b u z => by
        rw [upd_ne (ne_of_none z nl)]
        exact z)
end
end Law

set_option Elab.async false
set_option linter.all false
set_option maxRecDepth 100000
set_option maxHeartbeats 4000000
namespace Law
open PySem PySem.Spec PySem.Calls PyProof.Rows L2 KG LamX
local macro_rules | `(tactic| walk_at "1") => `(tactic| first
  | (with_reducible refine w_var rfl ?_) | (with_reducible refine w_c ?_) | (with_reducible refine w_seq ?_) | (with_reducible refine w_asg ?_) | (with_reducible refine w_gname ?_) | (with_reducible refine w_op ?_) | (with_reducible refine w_un ?_)
  | (with_reducible refine w_add ?_) | (with_reducible refine w_sub ?_) | ((with_reducible refine' w_mod ?mo ?_); (case mo => first | assumption | decide | omega)) | (with_reducible refine w_and ?_) | (with_reducible refine w_or ?_) | (with_reducible refine w_xor ?_)
  | (with_reducible refine w_gt ?_) | (with_reducible refine w_lt ?_) | (with_reducible refine w_ge ?_) | (with_reducible refine w_le ?_) | ((with_reducible refine' w_eq ?sc ?_); (case sc => rfl)) | ((with_reducible refine' w_ne ?sc ?_); (case sc => rfl))
  | (with_reducible refine w_ret ?_) | (with_reducible refine w_next ?_) | (with_reducible refine w_ifs ?_) | (with_reducible refine w_ifx ?_) | (with_reducible refine w_test ?_) | (with_reducible refine w_tB ?_) | (with_reducible refine w_bl ?_)
  | ((with_reducible refine' w_ixL ?ixh ?ixa ?_); (case ixh => first | exact SqL.of (by assumption)); (case ixa => first | rfl | skip)) | ((with_reducible refine' w_ixT ?ixh ?ixa ?_); (case ixh => first | exact SqT.of (by assumption)); (case ixa => first | rfl | skip))
  | ((with_reducible refine' w_fld ?_)) | ((with_reducible refine' fld ?fh ?fc ?fn ?fl ?_); (case fh => assumption); (case fc => assumption); (case fn => assumption); (case fl => rfl)) | (with_reducible refine w_sfld ?_)
  | (with_reducible refine Or.inl ⟨_, rfl, ?_⟩) | (with_reducible refine w_gsub ?_) | (with_reducible refine w_andV ?_) | (with_reducible refine w_orV ?_)
  | (with_reducible refine w_nil ?_) | (with_reducible refine w_cons ?_) | (with_reducible refine w_tup ?_) | (with_reducible refine w_lst ?_) | (with_reducible refine w_and2 ?_) | (with_reducible refine w_or2 ?_) | (with_reducible refine w_not ?_) | (with_reducible refine w_cb ?_) | (with_reducible refine w_call ?_) | (with_reducible refine w_par ?_) | (with_reducible refine w_pnil ?_) | (with_reducible refine w_pcons ?_) | (with_reducible refine w_dput ?_) | (with_reducible refine w_dget ?_) | (with_reducible refine w_for ?_) | (with_reducible refine w_itup ?_) | (with_reducible refine w_ilist ?_) | (with_reducible refine w_irng ?_) | (with_reducible refine w_meth ?_) | (with_reducible refine w_make ?_) | (with_reducible refine w_makeK ?_) | (with_reducible refine w_methK ?_) | ((with_reducible refine' mth ?mh ?ml ?_); (case mh => assumption); (case ml => rfl)) | (with_reducible refine w_drop ?_))
local macro_rules | `(tactic| walk_at "go") => `(tactic| ((repeat (walk_at "1")); try dsimp only))
local macro_rules | `(tactic| walk_at "1") => `(tactic| first
  | (with_reducible refine w_notV ?_) | (with_reducible refine w_callK ?_) | (with_reducible refine w_lc ?_) | (with_reducible refine w_chain ?_) | (with_reducible refine w_neg ?_) | ((with_reducible refine' w_shr ?mo ?_); (case mo => first | assumption | omega)))
theorem eqv_ints : ∀ ns ms : List Int, PyData.eqvAll (ns.map PyData.int) (ms.map PyData.int) = decide (ns = ms)
  | [], [] => by simp [PyData.eqvAll]
  | [], _ :: _ => by simp [PyData.eqvAll]
  | _ :: _, [] => by simp [PyData.eqvAll]
  | a :: ns, b :: ms => by
    have ih := eqv_ints ns ms
    simp only [List.map_cons, PyData.eqvAll, PyData.eqv, ih, List.cons.injEq]
    by_cases h : a = b <;> by_cases h2 : ns = ms <;> simp [h, h2]
theorem eqv_rows (F G : List (List Int)) : PyData.eqv (rowsD F) (rowsD G) = decide (F = G) := by
  have key : ∀ F G : List (List Int), PyData.eqvAll (F.map fun r => .tuple (r.map PyData.int)) (G.map fun r => .tuple (r.map PyData.int)) = decide (F = G) := by
    intro F
    induction F with
    | nil =>
      intro G
      cases G <;> simp [PyData.eqvAll]
    | cons e F ih =>
      intro G
      cases G with
      | nil => simp [PyData.eqvAll]
      | cons g G =>
        simp only [List.map_cons, PyData.eqvAll, PyData.eqv, eqv_ints, ih G, List.cons.injEq]
        by_cases h : e = g <;> by_cases h2 : F = G <;> simp [h, h2]
  unfold rowsD
  simp only [PyData.eqv]
  exact key F G
/-- rows as they are told: each ascending, of numbers below four -/
def NR (F : List (List Int)) : Prop := ∀ e ∈ F, e ∈ subs
theorem joinR_nr (F G : List (List Int)) : NR (joinR F G) := fun e he => by
  unfold joinR at he
  obtain ⟨_, _, rfl⟩ := List.mem_map.mp he
  exact pick_subs _
theorem uniR_nr (F G : List (List Int)) : NR (uniR F G) := fun e he => by
  unfold uniR at he
  obtain ⟨_, _, rfl⟩ := List.mem_map.mp he
  exact pick_subs _
theorem betw_nr0 : ∀ w ∈ WR, ∀ d ∈ DV, (∀ e ∈ betw true w d, e ∈ subs) ∧ ∀ e ∈ betw false w d, e ∈ subs := by decide +kernel
theorem ofR_nr {q : Bool} {r w d : Str} (hw : w ∈ WR) (hd : d ∈ DV) : ∀ cs : List Nat, NR (ofR q r w d cs) := fun cs => by
  have key : ∀ (cs : List Nat) (F : List (List Int)), NR F → NR (cs.foldl (stepR q r w d) F) := by
    intro cs
    induction cs with
    | nil => exact fun F h => h
    | cons c cs ih => exact fun F h => ih _ (joinR_nr _ _)
  refine key cs _ ?_
  cases q
  · exact (betw_nr0 w hw d hd).2
  · exact (betw_nr0 w hw d hd).1
theorem subs_ext : ∀ e ∈ subs, ∀ f ∈ subs, (∀ k ∈ S4, e.contains k = f.contains k) → e = f := by decide +kernel
theorem subs_in : ∀ e ∈ subs, ∀ k ∈ e, k ∈ S4 := by decide +kernel
/-! ### the law's own walk through the pairs, backwards -/
def stepP (F G : List (List Int)) (s : Int) (k : Int) (acc : Option (Int × Int) × Bool) : Option (Int × Int) × Bool :=
  if parP F G s k = true then (some (s, k), acc.2 && !(F.getD s.toNat []).contains k) else acc
def rowP (F G : List (List Int)) (l : List Int) (s : Int) (acc : Option (Int × Int) × Bool) : Option (Int × Int) × Bool := l.foldr (stepP F G s) acc
theorem rowP_1 (F G : List (List Int)) (s : Int) (acc : Option (Int × Int) × Bool) : ∀ l : List Int, (rowP F G l s acc).1 = ((l.find? fun k => parP F G s k).map fun k => (s, k)).or acc.1
  | [] => rfl
  | k :: l => by
    have ih := rowP_1 F G s acc l
    unfold rowP at ih ⊢
    rw [List.foldr_cons, List.find?_cons]
    unfold stepP at ih ⊢
    cases h : parP F G s k with
    | true => simp
    | false => simpa using ih
theorem rowP_2 (F G : List (List Int)) (s : Int) (acc : Option (Int × Int) × Bool) : ∀ l : List Int, (rowP F G l s acc).2 = (acc.2 && l.all fun k => !(parP F G s k && (F.getD s.toNat []).contains k))
  | [] => by simp [rowP]
  | k :: l => by
    have ih := rowP_2 F G s acc l
    unfold rowP at ih ⊢
    rw [List.foldr_cons, List.all_cons]
    have e : ∀ X, (stepP F G s k X).2 = (X.2 && !(parP F G s k && (F.getD s.toNat []).contains k)) := fun X => by
      unfold stepP
      cases parP F G s k <;> simp
    rw [e, ih]
    generalize (!(parP F G s k && (F.getD s.toNat []).contains k)) = a
    cases acc.2 <;> simp [Bool.and_comm]
def allP (F G : List (List Int)) (l L : List Int) (acc : Option (Int × Int) × Bool) : Option (Int × Int) × Bool := L.foldr (rowP F G l) acc
theorem allP_1 (F G : List (List Int)) (l : List Int) (acc : Option (Int × Int) × Bool) : ∀ L : List Int, (allP F G l L acc).1 = (L.findSome? fun s => (l.find? fun k => parP F G s k).map fun k => (s, k)).or acc.1
  | [] => rfl
  | s :: L => by
    have ih := allP_1 F G l acc L
    unfold allP at ih ⊢
    rw [List.foldr_cons, rowP_1, ih, List.findSome?_cons]
    cases (l.find? fun k => parP F G s k) <;> simp
theorem allP_2 (F G : List (List Int)) (l : List Int) (acc : Option (Int × Int) × Bool) : ∀ L : List Int, (allP F G l L acc).2 = (acc.2 && L.all fun s => l.all fun k => !(parP F G s k && (F.getD s.toNat []).contains k))
  | [] => by simp [allP]
  | s :: L => by
    have ih := allP_2 F G l acc L
    unfold allP at ih ⊢
    rw [List.foldr_cons, rowP_2, ih, List.all_cons]
    cases acc.2 <;> simp [Bool.and_comm]
theorem win_walk {w : Str} {F G : List (List Int)} (rF : Rw (stN w).length F) : (allP F G (stN w) (stN w) (none, true)).2 = (winL F G (stN w)).all id := by
  rw [allP_2, Bool.true_and, Bool.eq_iff_iff, List.all_eq_true, List.all_eq_true]
  unfold winL
  constructor
  · intro h b hb
    obtain ⟨s, hs, hb⟩ := List.mem_flatMap.mp hb
    obtain ⟨k, hk, rfl⟩ := List.mem_map.mp hb
    have kin : k ∈ stN w := by
      rw [List.getD_eq_getElem?_getD] at hk
      cases z : F[s.toNat]? with
      | none => rw [z] at hk; cases hk
      | some e =>
        rw [z] at hk
        have := rF.bd e (List.mem_of_getElem? z) k hk
        unfold stN at this ⊢
        split at this
        · rename_i c
          rw [if_pos c]
          simp at this ⊢
          omega
        · rename_i c
          rw [if_neg c]
          simp at this ⊢
          omega
    have h2 := List.all_eq_true.mp (h s hs) k kin
    have hc : (F.getD s.toNat []).contains k = true := List.contains_iff_mem.mpr hk
    unfold parP at h2
    rw [hc] at h2
    show (G.getD s.toNat []).contains k = true
    cases z : (G.getD s.toNat []).contains k with
    | true => rfl
    | false => rw [z] at h2; simp at h2
  · intro h s hs
    refine List.all_eq_true.mpr fun k hk => ?_
    cases hc : (F.getD s.toNat []).contains k with
    | false => simp
    | true =>
      have := h ((G.getD s.toNat []).contains k) (List.mem_flatMap.mpr ⟨s, hs, List.mem_map.mpr ⟨k, List.contains_iff_mem.mp hc, rfl⟩⟩)
      have this : (G.getD s.toNat []).contains k = true := this
      unfold parP
      rw [hc, this]
      rfl
theorem par_walk {w : Str} {F G : List (List Int)} : (allP F G (stN w) (stN w) (none, true)).1 = parR w F G := by
  rw [allP_1]
  unfold parR
  simp
end Law

set_option Elab.async false
set_option linter.all false
set_option maxRecDepth 100000
set_option maxHeartbeats 4000000
namespace Law
open PySem PySem.Spec PySem.Calls PyProof.Rows L2 KG LamX
local macro_rules | `(tactic| walk_at "1") => `(tactic| first
  | (with_reducible refine w_var rfl ?_) | (with_reducible refine w_c ?_) | (with_reducible refine w_seq ?_) | (with_reducible refine w_asg ?_) | (with_reducible refine w_gname ?_) | (with_reducible refine w_op ?_) | (with_reducible refine w_un ?_)
  | (with_reducible refine w_add ?_) | (with_reducible refine w_sub ?_) | ((with_reducible refine' w_mod ?mo ?_); (case mo => first | assumption | decide | omega)) | (with_reducible refine w_and ?_) | (with_reducible refine w_or ?_) | (with_reducible refine w_xor ?_)
  | (with_reducible refine w_gt ?_) | (with_reducible refine w_lt ?_) | (with_reducible refine w_ge ?_) | (with_reducible refine w_le ?_) | ((with_reducible refine' w_eq ?sc ?_); (case sc => rfl)) | ((with_reducible refine' w_ne ?sc ?_); (case sc => rfl))
  | (with_reducible refine w_ret ?_) | (with_reducible refine w_next ?_) | (with_reducible refine w_ifs ?_) | (with_reducible refine w_ifx ?_) | (with_reducible refine w_test ?_) | (with_reducible refine w_tB ?_) | (with_reducible refine w_bl ?_)
  | ((with_reducible refine' w_ixL ?ixh ?ixa ?_); (case ixh => first | exact SqL.of (by assumption)); (case ixa => first | rfl | skip)) | ((with_reducible refine' w_ixT ?ixh ?ixa ?_); (case ixh => first | exact SqT.of (by assumption)); (case ixa => first | rfl | skip))
  | ((with_reducible refine' w_fld ?_)) | ((with_reducible refine' fld ?fh ?fc ?fn ?fl ?_); (case fh => assumption); (case fc => assumption); (case fn => assumption); (case fl => rfl)) | (with_reducible refine w_sfld ?_)
  | (with_reducible refine Or.inl ⟨_, rfl, ?_⟩) | (with_reducible refine w_gsub ?_) | (with_reducible refine w_andV ?_) | (with_reducible refine w_orV ?_)
  | (with_reducible refine w_nil ?_) | (with_reducible refine w_cons ?_) | (with_reducible refine w_tup ?_) | (with_reducible refine w_lst ?_) | (with_reducible refine w_and2 ?_) | (with_reducible refine w_or2 ?_) | (with_reducible refine w_not ?_) | (with_reducible refine w_cb ?_) | (with_reducible refine w_call ?_) | (with_reducible refine w_par ?_) | (with_reducible refine w_pnil ?_) | (with_reducible refine w_pcons ?_) | (with_reducible refine w_dput ?_) | (with_reducible refine w_dget ?_) | (with_reducible refine w_for ?_) | (with_reducible refine w_itup ?_) | (with_reducible refine w_ilist ?_) | (with_reducible refine w_irng ?_) | (with_reducible refine w_meth ?_) | (with_reducible refine w_make ?_) | (with_reducible refine w_makeK ?_) | (with_reducible refine w_methK ?_) | ((with_reducible refine' mth ?mh ?ml ?_); (case mh => assumption); (case ml => rfl)) | (with_reducible refine w_drop ?_))
local macro_rules | `(tactic| walk_at "go") => `(tactic| ((repeat (walk_at "1")); try dsimp only))
local macro_rules | `(tactic| walk_at "1") => `(tactic| first
  | (with_reducible refine w_notV ?_) | (with_reducible refine w_callK ?_) | (with_reducible refine w_lc ?_) | (with_reducible refine w_chain ?_) | (with_reducible refine w_neg ?_) | ((with_reducible refine' w_shr ?mo ?_); (case mo => first | assumption | omega)))
theorem parP_sym (F G : List (List Int)) (s k : Int) : parP F G s k = parP G F s k := by
  unfold parP
  cases (F.getD s.toNat []).contains k <;> cases (G.getD s.toNat []).contains k <;> rfl
theorem parR_sym (w : Str) (F G : List (List Int)) : parR w F G = parR w G F := by
  have e : parP F G = parP G F := funext fun s => funext fun k => parP_sym F G s k
  unfold parR
  rw [e]
theorem getD_at {F : List (List Int)} {i : Nat} {e : List Int} (h : F[i]? = some e) : F.getD ((i : Int)).toNat [] = e := by
  rw [Int.toNat_natCast, List.getD_eq_getElem?_getD, h]
  rfl
theorem stN_get {w : Str} {i : Nat} (h : i < (stN w).length) : (stN w)[i]? = some (i : Int) := by
  obtain ⟨s, hs⟩ : ∃ s, (stN w)[i]? = some s := ⟨_, List.getElem?_eq_getElem h⟩
  rw [hs, stN_at hs]
theorem stN_in {w : Str} {k : Int} (h : 0 ≤ k ∧ k < (stN w).length) : k ∈ stN w := by
  obtain ⟨n, rfl⟩ := Int.eq_ofNat_of_zero_le h.1
  exact List.mem_of_getElem? (stN_get (w := w) (i := n) (by omega))
theorem rows_ext {n : Nat} {F G : List (List Int)} (hF : F.length = n) (hG : G.length = n) (h : ∀ (i : Nat) (e g : List Int), F[i]? = some e → G[i]? = some g → e = g) : F = G := by
  refine List.ext_getElem? fun i => ?_
  rcases Nat.lt_or_ge i n with lt | ge
  · have a := List.getElem?_eq_getElem (l := F) (i := i) (by omega)
    have b := List.getElem?_eq_getElem (l := G) (i := i) (by omega)
    rw [a, b, h i _ _ a b]
  · rw [List.getElem?_eq_none (by omega), List.getElem?_eq_none (by omega)]
/-- rows of two effects are one and the same if no pair parts them -/
theorem eq_of_par {w : Str} {F G : List (List Int)} (rF : Rw (stN w).length F) (rG : Rw (stN w).length G) (nF : NR F) (nG : NR G) (h : ∀ s ∈ stN w, ∀ k ∈ stN w, parP F G s k = false) : F = G := by
  refine rows_ext rF.len rG.len fun i e g he hg => ?_
  have hi : i < (stN w).length := by rw [← rF.len]; exact (List.getElem?_eq_some_iff.mp he).1
  have hs := List.mem_of_getElem? (stN_get hi)
  refine subs_ext e (nF e (List.mem_of_getElem? he)) g (nG g (List.mem_of_getElem? hg)) fun k _ => ?_
  by_cases kin : k ∈ stN w
  · have := h _ hs k kin
    unfold parP at this
    rw [getD_at he, getD_at hg] at this
    cases a : e.contains k <;> cases b : g.contains k <;> rw [a, b] at this <;> first | rfl | cases this
  · have a : e.contains k = false := by
      cases a : e.contains k with
      | false => rfl
      | true => exact absurd (stN_in (rF.bd e (List.mem_of_getElem? he) k (List.contains_iff_mem.mp a))) kin
    have b : g.contains k = false := by
      cases b : g.contains k with
      | false => rfl
      | true => exact absurd (stN_in (rG.bd g (List.mem_of_getElem? hg) k (List.contains_iff_mem.mp b))) kin
    rw [a, b]
theorem eq_par {w : Str} {F G : List (List Int)} (rF : Rw (stN w).length F) (rG : Rw (stN w).length G) (nF : NR F) (nG : NR G) : decide (F = G) = (parR w F G).isNone := by
  cases hp : parR w F G with
  | none =>
    have := List.findSome?_eq_none_iff.mp hp
    refine decide_eq_true (eq_of_par rF rG nF nG fun s hs k hk => ?_)
    have h2 := this s hs
    rw [Option.map_eq_none_iff, List.find?_eq_none] at h2
    simpa using h2 k hk
  | some p =>
    refine decide_eq_false fun e => ?_
    subst e
    obtain ⟨s, _, h⟩ := List.exists_of_findSome?_eq_some hp
    obtain ⟨k, hk, _⟩ := Option.map_eq_some_iff.mp h
    have := List.find?_some hk
    unfold parP at this
    simp at this
theorem uni_at {F G : List (List Int)} {i : Nat} {e g : List Int} (he : F[i]? = some e) (hg : G[i]? = some g) : (uniR F G)[i]? = some (asc (e ++ g)) := by
  unfold uniR
  rw [List.getElem?_map, show (F.zip G)[i]? = some (e, g) from List.getElem?_zip_eq_some.mpr ⟨he, hg⟩]
  rfl
theorem asc_mem {l : List Int} {k : Int} : k ∈ asc l ↔ (0 ≤ k ∧ k < 4) ∧ k ∈ l := by
  unfold asc
  rw [pick_mem, List.contains_iff_mem]
theorem asc_app (e g : List Int) : asc (e ++ g) = asc (g ++ e) := asc_uniq (pick_asc _) (pick_asc _) fun k => by
  show k ∈ asc _ ↔ k ∈ asc _
  rw [asc_mem, asc_mem, List.mem_append, List.mem_append, or_comm (a := k ∈ e)]
theorem uni_len {n : Nat} {F G : List (List Int)} (hF : F.length = n) (hG : G.length = n) : (uniR F G).length = n := by
  unfold uniR
  rw [List.length_map, List.length_zip, hF, hG, Nat.min_self]
theorem uni_sym {n : Nat} {F G : List (List Int)} (hF : F.length = n) (hG : G.length = n) : uniR F G = uniR G F := by
  refine rows_ext (uni_len hF hG) (uni_len hG hF) fun i a b ha hb => ?_
  have hi : i < n := by rw [← uni_len hF hG]; exact (List.getElem?_eq_some_iff.mp ha).1
  have he := List.getElem?_eq_getElem (l := F) (i := i) (by omega)
  have hg := List.getElem?_eq_getElem (l := G) (i := i) (by omega)
  rw [uni_at he hg] at ha
  rw [uni_at hg he] at hb
  rw [← Option.some.inj ha, ← Option.some.inj hb, asc_app]
theorem win_iff {w : Str} {F G : List (List Int)} (rF : Rw (stN w).length F) (hG : G.length = (stN w).length) : (winL F G (stN w)).all id = true ↔ ∀ (i : Nat) (e g : List Int), F[i]? = some e → G[i]? = some g → ∀ k ∈ e, k ∈ g := by
  rw [List.all_eq_true]
  constructor
  · intro h i e g he hg k hk
    have hi : i < (stN w).length := by rw [← rF.len]; exact (List.getElem?_eq_some_iff.mp he).1
    have := h (g.contains k) (List.mem_flatMap.mpr ⟨i, List.mem_of_getElem? (stN_get hi), List.mem_map.mpr ⟨k, by rw [getD_at he]; exact hk, by rw [getD_at hg]⟩⟩)
    exact List.contains_iff_mem.mp this
  · intro h b hb
    obtain ⟨s, hs, hb⟩ := List.mem_flatMap.mp hb
    obtain ⟨k, hk, rfl⟩ := List.mem_map.mp hb
    obtain ⟨i, hi⟩ := List.getElem?_of_mem hs
    obtain rfl := stN_at hi
    have lt := (List.getElem?_eq_some_iff.mp hi).1
    have he := List.getElem?_eq_getElem (l := F) (i := i) (by rw [rF.len]; exact lt)
    have hg := List.getElem?_eq_getElem (l := G) (i := i) (by rw [hG]; exact lt)
    rw [getD_at he] at hk
    show (G.getD ((i : Int)).toNat []).contains k = true
    rw [getD_at hg]
    exact List.contains_iff_mem.mpr (h i _ _ he hg k hk)
theorem win_uni {w : Str} {F G : List (List Int)} (rF : Rw (stN w).length F) (rG : Rw (stN w).length G) : (winL F (uniR F G) (stN w)).all id = true := by
  refine (win_iff rF (uni_len rF.len rG.len)).mpr fun i e u he hu k hk => ?_
  have hi : i < (stN w).length := by rw [← rF.len]; exact (List.getElem?_eq_some_iff.mp he).1
  have hg := List.getElem?_eq_getElem (l := G) (i := i) (by rw [rG.len]; exact hi)
  rw [uni_at he hg] at hu
  rw [← Option.some.inj hu, asc_mem, List.mem_append]
  have := rF.bd e (List.mem_of_getElem? he) k hk
  have := stN_len w
  exact ⟨by omega, .inl hk⟩
theorem uni_eq {w : Str} {F G : List (List Int)} (rF : Rw (stN w).length F) (rG : Rw (stN w).length G) (nG : NR G) : decide (uniR F G = G) = (winL F G (stN w)).all id := by
  have n4 := stN_len w
  rw [Bool.eq_iff_iff, decide_eq_true_eq, win_iff rF rG.len]
  constructor
  · intro h i e g he hg k hk
    have hu := uni_at he hg
    rw [h, hg] at hu
    rw [Option.some.inj hu, asc_mem, List.mem_append]
    have := rF.bd e (List.mem_of_getElem? he) k hk
    exact ⟨by omega, .inl hk⟩
  · intro h
    refine rows_ext (uni_len rF.len rG.len) rG.len fun i u g hu hg => ?_
    have hi : i < (stN w).length := by rw [← rG.len]; exact (List.getElem?_eq_some_iff.mp hg).1
    have he := List.getElem?_eq_getElem (l := F) (i := i) (by rw [rF.len]; exact hi)
    have hu0 := hu
    rw [uni_at he hg] at hu
    refine subs_ext u (uniR_nr F G u (List.mem_of_getElem? hu0)) g (nG g (List.mem_of_getElem? hg)) fun k hk => ?_
    rw [← Option.some.inj hu, Bool.eq_iff_iff, List.contains_iff_mem, List.contains_iff_mem, asc_mem, List.mem_append]
    constructor
    · rintro ⟨_, hk | hk⟩
      · exact h i _ _ he hg k hk
      · exact hk
    · intro hk
      have := rG.bd g (List.mem_of_getElem? hg) k hk
      exact ⟨by omega, .inr hk⟩
end Law

set_option Elab.async false
set_option linter.all false
set_option maxRecDepth 100000
set_option maxHeartbeats 1000000
/-! KRT: t[::-1] of a tuple. -/
namespace KG
open PySem PySem.Spec PySem.Calls PyProof.Rows L2
section
variable {prog : Program} {w : World} {A : Around} {E : Value → Shared → Prop} {s : Shared}
theorem pick_back (xs : Array Value) : ((List.range xs.size).filterMap fun (m : Nat) => xs[(((xs.size : Int) - 1) + (m : Int) * (-1)).toNat]?).toArray = xs.toList.reverse.toArray := by
  have key : ∀ k, k ≤ xs.size → ((List.range k).filterMap fun (m : Nat) => xs[(((xs.size : Int) - 1) + (m : Int) * (-1)).toNat]?) = xs.toList.reverse.take k := by
    intro k
    induction k with
    | zero => exact fun _ => by simp
    | succ k ih =>
      intro hk
      have e : (((xs.size : Int) - 1) + (k : Int) * (-1)).toNat = xs.size - 1 - k := by omega
      have lt : xs.size - 1 - k < xs.size := by omega
      rw [List.range_succ, List.filterMap_append, ih (by omega), List.take_add_one, List.filterMap_cons, List.filterMap_nil, e, Array.getElem?_eq_getElem lt]
      rw [List.getElem?_reverse (by rw [Array.length_toList]; omega), Array.length_toList, Array.getElem?_toList, Array.getElem?_eq_getElem lt]
      rfl
  rw [key _ (Nat.le_refl _)]
  congr 1
  exact List.take_of_length_le (by rw [List.length_reverse, Array.length_toList]; exact Nat.le_refl _)
theorem applied_back {sl : Addr} {vl vu vs : Value} {n : Nat} {Q : Int × Int × Nat → Shared → Prop} (hs : s.heap.IsSliceOf sl vl vu vs) (pl : IsPart vl none) (pu : IsPart vu none) (ps : IsPart vs (some (-1)))
    (h : Q ((n : Int) - 1, -1, n) s) : wpAny (model prog w) A (Builtin.Slice.sliceApplied (.ref sl) (pure (n : Int))) Q E s := by
  obtain ⟨os, hos, hcs, hds⟩ := id hs
  unfold Builtin.Slice.sliceApplied Builtin.Slice.sliceFields
  refine wpAny_bind (wpAny_bind (wpAny_field hos hds (x := vl) rfl (wpAny_bind (wpAny_field hos hds (x := vu) rfl (wpAny_bind (wpAny_field hos hds (x := vs) rfl (wpAny_pure ?_)))))))
  refine wpAny_bind (HT.slicePart_ ps ?_)
  show wpAny _ _ (if ((-1 : Int) == 0) = true then _ else _) _ _ s
  rw [if_neg (by decide)]
  refine wpAny_bind (HT.slicePart_ pl (wpAny_bind (HT.slicePart_ pu (wpAny_bind (wpAny_pure ?_)))))
  show wpAny _ _ (match Builtin.Slice.sliceAdjust none none (-1) (n : Int) with | (lo, hi) => pure (lo, (-1 : Int), Builtin.Slice.slicePlaces lo hi (-1))) _ _ s
  have e1 : Builtin.Slice.sliceAdjust none none (-1) (n : Int) = ((n : Int) - 1, -1) := by
    unfold Builtin.Slice.sliceAdjust
    simp
  have e2 : Builtin.Slice.slicePlaces ((n : Int) - 1) (-1) (-1) = n := by
    unfold Builtin.Slice.slicePlaces
    simp
    try omega
  rw [e1]
  show wpAny _ _ (pure ((n : Int) - 1, (-1 : Int), Builtin.Slice.slicePlaces ((n : Int) - 1) (-1) (-1))) _ _ s
  rw [e2]
  exact wpAny_pure h
theorem item_back {t sl : Addr} {items : Array Value} {vl vu vs : Value} {Q : Value → Shared → Prop} (ht : IsTup s.heap t items) (hs : s.heap.IsSliceOf sl vl vu vs) (pl : IsPart vl none) (pu : IsPart vu none) (ps : IsPart vs (some (-1)))
    (h : Q (.ref s.heap.objs.size) { s with heap := s.heap.push { cls := .type "tuple", data := .seq items.toList.reverse.toArray } }) (hsz : items.size ≤ sizeLine) : wpAny (model prog w) A (getItem (.ref t) (.ref sl)) Q E s := by
  have htake : sizeOk (.seq items.toList.reverse.toArray) := by
    show items.toList.reverse.toArray.size ≤ sizeLine
    rw [List.size_toArray, List.length_reverse, Array.length_toList]
    exact hsz
  obtain ⟨os, hos, hcs, hds⟩ := id hs
  have hTs : s.TypeIs (.ref sl) "slice" := ⟨os, hos, hcs⟩
  unfold getItem
  try with_reducible refine wpAny_holding ?_
  first | refine wpAny_bind (wpAny_pure ?_) | skip
  refine wpAny_bind (wpAny_sequenceKey ht.typeIs (by decide) ?_)
  refine wpAny_bind (wpAny_callSpecial?_slot (name := Str.ofString "__getitem__") ht.typeIs PyProof.Rows.slot_tuple_getitem
    (wpAny_call_entry PyProof.Rows.slot_tuple_getitem ht.typeIs entry_tuple_getitem ?_ (args_tuple_getitem _ _)))
  show wpAny _ _ (Builtin.Tuple.tupleItemsOf (.ref t) >>= _) _ _ s
  refine wpAny_bind (PyProof.Rows.tupleItemsOf_ ht ?_)
  refine wpAny_bind (wpAny_typeOf hTs ?_)
  rw [if_pos (by decide)]
  refine wpAny_bind (applied_back hs pl pu ps ?_)
  have hno : ¬ ((((items.size : Int) - 1) == 0 && (-1 : Int) == 1 && items.size == items.size) = true) := by
    intro q
    rw [Bool.and_eq_true, Bool.and_eq_true] at q
    exact absurd q.1.2 (by decide)
  show wpAny _ _ (if (((items.size : Int) - 1) == 0 && (-1 : Int) == 1 && items.size == items.size) = true then _ else _) _ _ s
  rw [if_neg hno, pick_back]
  first
    | exact wpAny_bind (m := Builtin.Tuple.tupleExact _) (wpAny_newObj_type (wpAny_pure ⟨_, rfl, wpAny_pure h⟩) htake)
    | exact wpAny_bind (m := Builtin.Tuple.tupleExact _) (wpAny_newObj_type (wpAny_bind (wpAny_pure (wpAny_pure ⟨_, rfl, wpAny_pure h⟩))) htake)
    | exact wpAny_bind (wpAny_bind (m := Builtin.Tuple.tupleExact _) (wpAny_newObj_type (wpAny_pure (wpAny_pure ⟨_, rfl, wpAny_pure h⟩)) htake))
    | exact wpAny_bind (wpAny_bind (m := Builtin.Tuple.tupleExact _) (wpAny_newObj_type (wpAny_pure ⟨_, rfl, wpAny_pure h⟩) htake))
end
def tRevT (K : PySem.W.Frag) (te : TE) : TE := fun σ H Q => te σ H fun x H1 => ∃ a xs, x = .ref a ∧ SqT K H1 a xs ∧ ∀ p, H1 p = none → Q (.ref p) (upd H1 p (.tup xs.reverse))
section
variable {X : Cx}
theorem pe_revT {e : Expr} {te : TE} {k : Nat} {p1 p2 p3 pos : Pos} (he : PE X e te) : PE X (.Subscript e (.Slice none none (some (.UnaryOp .USub (.Constant (.int 1) k p1) p2)) p3) pos) (tRevT X.K te) := by
  refine ⟨fun pins s σ H Q I h => ?_⟩
  refine Subscript_ (thn (he.run pins s σ H _ I h) fun v s1 ⟨x, H1, I1, r1, q1⟩ => ?_)
  obtain ⟨a, xs, ex, hx, q⟩ := q1
  subst ex
  cases r1
  have hst : PO X (some (.UnaryOp .USub (.Constant (.int 1) k p1) p2)) (tPart (tUn (rU fun i => .int (-i)) (tC (.int 1)))) := po_some (pe_un un_neg pe_int)
  refine wpAny_Slice (thn (po_none.run pins s1 σ H1 (fun o H2 => o = none ∧ H2 = H1) I1 ⟨rfl, rfl⟩) fun vl s2 ⟨l, H2, I2, pl, el, e2⟩ => ?_)
  subst el e2
  refine thn (po_none.run pins s2 σ H2 (fun o H3 => o = none ∧ H3 = H2) I2 ⟨rfl, rfl⟩) fun vu s3 ⟨u, H3, I3, pu, eu, e3⟩ => ?_
  subst eu e3
  refine thn (hst.run pins s3 σ H3 (fun o H4 => o = some (-1) ∧ H4 = H3) I3 ⟨1, rfl, -1, rfl, rfl, rfl⟩) fun vs s4 ⟨o, H4, I4, ps, eo, e4⟩ => ?_
  subst eo e4
  have I5 : Inv X pins σ H4 { s4 with heap := s4.heap.push { cls := .type "slice", data := .fields #[vl, vu, vs] } } := I4.kept (t' := s4.toks) fun b ob q => Heap.get?_push_of_some _ q
  obtain ⟨its, r, ht, hz⟩ := I5.tuple hx
  have hlen := r.length
  show wpAny (model X.prog X.w) X.A (subscriptTail e (.Slice none none (some (.UnaryOp .USub (.Constant (.int 1) k p1) p2)) p3) (.ref a) (.ref s4.heap.objs.size)) (EP X pins σ Q) X.xe { s4 with heap := s4.heap.push { cls := .type "slice", data := .fields #[vl, vu, vs] } }
  refine tail_any (ops := [.ref a, .ref s4.heap.objs.size]) ht.typeIs (PyProof.Rows.slot_tuple_getitem.lookup) ?_ (by with_unfolding_all rfl)
  refine item_back ht (Heap.IsSliceOf.new _ vl vu vs) pl pu ps ?_ (by rw [List.size_toArray]; omega)
  refine ⟨.ref _, _, I5.laid (t' := s4.toks) (o := .tup xs.reverse) (fun b ob q => Heap.get?_push_of_some _ q) (Nat.le_refl _) ?_, rfl, q _ (I5.hok.fresh (Nat.le_refl _))⟩
  exact ⟨by rw [List.length_reverse]; exact hz, _, r.reverse, IsTup.new _ _⟩
end
end KG

set_option Elab.async false
set_option linter.all false
set_option maxRecDepth 100000
set_option maxHeartbeats 1000000
/-! KOO: an own operator between two objects of one own class. -/
namespace PySem.W
open PySem PySem.Spec PySem.Calls PyProof.Rows
section
variable {prog : Program} {w : World} {A : Around} {E : Value → Shared → Prop} {s : Shared} {K : Frag} {x y C L f : Addr} {h₀ : Heap} {m : Str → Option Value} {ox oy : Obj} {od od' : Option Obj}
theorem bin_same {op : Operator} {Q : Value → Shared → Prop} (F : Fr h₀ L s.heap m) (X₀ : K.In h₀) (I : InstAt s.heap x ox C od) (J : InstAt s.heap y oy C od') (hc : selfFirst K C = true)
    (hs : findIn K (.ref C) (PySem.dunder op.info.2) = some (some (.ref f))) (hf : isFn K (.ref f) = true)
    (h : wpAny (model prog w) A (call (.ref f) [.ref x, .ref y]) (CmpBack Q) E s) : wpAny (model prog w) A (binaryOp op (.ref x) (.ref y)) Q E s := by
  have X := X₀.keeps F.keep
  obtain ⟨cd, rest, hcd, hm⟩ := ksp_first hc
  rcases hi : op.info with ⟨sym, nm'⟩
  rw [hi] at hs
  dsimp only at hs
  have one := ksp_try X I hs hf h
  obtain ⟨hh, g, d, tt, os⟩ := s
  have L1 : Looks (model prog w) hh (typeOf (.ref x)) (.ref C) := I.type
  have L2 : Looks (model prog w) hh (typeOf (.ref y)) (.ref C) := J.type
  have L3 : Looks (model prog w) hh (fillsNumberSlot (.ref C) nm') true := fills_K X hcd hm hs
  have he : (Value.ref C == Value.ref C) = true := beq_self_eq_true _
  simp only [binaryOp, hi]
  refine wpAny_holding (wpAny_bind ?_)
  unfold binaryOp1
  refine wpAny_bind (L1.at (wpAny_bind (L2.at (wpAny_bind (L3.at ?_)))))
  simp only [he, if_true]
  ksp_lk
  refine wpAny_mono one (fun r s' hr' => ?_) fun _ _ e => e
  obtain ⟨v, rfl, hq⟩ := hr'
  ksp_lk
  exact hq
end
end PySem.W
namespace KG
open PySem PySem.Spec PySem.Calls PyProof.Rows L2
section
variable {X : Cx} {CX : CXT} {k : Nat} {C f : Addr} {fd : FuncData} {ps : List Str} {sp : Sp} {E : XK}
def rOO (C : Addr) (sp : Sp) (E : XK) : R2 := fun x y H Q => ∃ (a b dx dy : Addr) (fs gs : List (Str × V)), x = .ref a ∧ y = .ref b ∧ H a = some (.ins C dx fs) ∧ H b = some (.ins C dy gs) ∧ sp [.ref a, .ref b] H Q E
theorem op_OO {op : Operator} (hc : PySem.W.selfFirst X.K C = true) (hs : PySem.W.findIn X.K (.ref C) (PySem.dunder op.info.2) = some (some (.ref f))) (hf : PySem.W.isFn X.K (.ref f) = true)
    (F : Gd X.prog X.w X.K X.mg X.base CX k f fd ps sp) (rm : Room k X.A) (gd : X.A.guards = some []) (hb : Binds X.K fd ps []) (hx : Passes CX X E) : OpR X (binaryOp op) (rOO C sp E) := by
  intro pins s σ H x y v u Q I rx ry h
  obtain ⟨a, b, dx, dy, fs, gs, rfl, rfl, ea, eb, q⟩ := h
  obtain rfl : v = Value.ref a := rx
  obtain rfl : u = Value.ref b := ry
  obtain ⟨mA, J, _⟩ := ins_get I.hok ea
  obtain ⟨od, J, _⟩ := J.look
  obtain ⟨mB, J2, _⟩ := ins_get I.hok eb
  obtain ⟨od2, J2, _⟩ := J2.look
  obtain ⟨m, fr⟩ := I.fr
  have r2 : Vals [V.ref a, .ref b] [Value.ref a, .ref b] := .cons rfl (.cons rfl .nil)
  have bt := bind_pos (dvs := []) (vs := [V.ref a, .ref b]) F hb .nil I.kIn r2 q
  refine PySem.W.bin_same fr I.ok.mod.kin J J2 hc hs hf ?_
  refine wpAny_mono (run_g (us := [.ref a, .ref b]) F rm gd hx I bt r2 q) (fun v s' hv => ?_) fun _ _ z => z
  have rv : ∃ z, RelV z v := let ⟨z, _, _, rz, _⟩ := hv; ⟨z, rz⟩
  exact rv.elim fun z rz => SlX.cmpback rz hv
end
end KG

set_option Elab.async false
set_option linter.all false
set_option maxRecDepth 100000
set_option maxHeartbeats 4000000
namespace Law
open PySem PySem.Spec PySem.Calls PyProof.Rows L2 KG LamX
local macro_rules | `(tactic| walk_at "1") => `(tactic| first
  | (with_reducible refine w_var rfl ?_) | (with_reducible refine w_c ?_) | (with_reducible refine w_seq ?_) | (with_reducible refine w_asg ?_) | (with_reducible refine w_gname ?_) | (with_reducible refine w_op ?_) | (with_reducible refine w_un ?_)
  | (with_reducible refine w_add ?_) | (with_reducible refine w_sub ?_) | ((with_reducible refine' w_mod ?mo ?_); (case mo => first | assumption | decide | omega)) | (with_reducible refine w_and ?_) | (with_reducible refine w_or ?_) | (with_reducible refine w_xor ?_)
  | (with_reducible refine w_gt ?_) | (with_reducible refine w_lt ?_) | (with_reducible refine w_ge ?_) | (with_reducible refine w_le ?_) | ((with_reducible refine' w_eq ?sc ?_); (case sc => rfl)) | ((with_reducible refine' w_ne ?sc ?_); (case sc => rfl))
  | (with_reducible refine w_ret ?_) | (with_reducible refine w_next ?_) | (with_reducible refine w_ifs ?_) | (with_reducible refine w_ifx ?_) | (with_reducible refine w_test ?_) | (with_reducible refine w_tB ?_) | (with_reducible refine w_bl ?_)
  | ((with_reducible refine' w_ixL ?ixh ?ixa ?_); (case ixh => first | exact SqL.of (by assumption)); (case ixa => first | rfl | skip)) | ((with_reducible refine' w_ixT ?ixh ?ixa ?_); (case ixh => first | exact SqT.of (by assumption)); (case ixa => first | rfl | skip))
  | ((with_reducible refine' w_fld ?_)) | ((with_reducible refine' fld ?fh ?fc ?fn ?fl ?_); (case fh => assumption); (case fc => assumption); (case fn => assumption); (case fl => rfl)) | (with_reducible refine w_sfld ?_)
  | (with_reducible refine Or.inl ⟨_, rfl, ?_⟩) | (with_reducible refine w_gsub ?_) | (with_reducible refine w_andV ?_) | (with_reducible refine w_orV ?_)
  | (with_reducible refine w_nil ?_) | (with_reducible refine w_cons ?_) | (with_reducible refine w_tup ?_) | (with_reducible refine w_lst ?_) | (with_reducible refine w_and2 ?_) | (with_reducible refine w_or2 ?_) | (with_reducible refine w_not ?_) | (with_reducible refine w_cb ?_) | (with_reducible refine w_call ?_) | (with_reducible refine w_par ?_) | (with_reducible refine w_pnil ?_) | (with_reducible refine w_pcons ?_) | (with_reducible refine w_dput ?_) | (with_reducible refine w_dget ?_) | (with_reducible refine w_for ?_) | (with_reducible refine w_itup ?_) | (with_reducible refine w_ilist ?_) | (with_reducible refine w_irng ?_) | (with_reducible refine w_meth ?_) | (with_reducible refine w_make ?_) | (with_reducible refine w_makeK ?_) | (with_reducible refine w_methK ?_) | ((with_reducible refine' mth ?mh ?ml ?_); (case mh => assumption); (case ml => rfl)) | (with_reducible refine w_drop ?_))
local macro_rules | `(tactic| walk_at "go") => `(tactic| ((repeat (walk_at "1")); try dsimp only))
local macro_rules | `(tactic| walk_at "1") => `(tactic| first
  | (with_reducible refine w_notV ?_) | (with_reducible refine w_callK ?_) | (with_reducible refine w_lc ?_) | (with_reducible refine w_chain ?_) | (with_reducible refine w_neg ?_) | ((with_reducible refine' w_shr ?mo ?_); (case mo => first | assumption | omega)))
def spCmp (C CE : Addr) : Sp := fun vs H Q _ => ∃ (e e' k k' t : Addr) (r w d : Str) (F F' : List (List Int)), vs = [.ref e, .ref e', .ref t] ∧ H t = some (.tup [.str r, .str w, .str d]) ∧ EffAt C CE H e k r w d F ∧ EffAt C CE H e' k' r w d F' ∧ Rw (stN w).length F ∧ Rw (stN w).length F' ∧ NR F ∧ NR F' ∧ ∀ H', Same H H' → Q (.bl true) H'
/-- what the law's walk holds as the least pair -/
def LeastAt (H : Hp) (v : V) (o : Option (Int × Int)) : Prop := (o = none ∧ v = .non) ∨ ∃ (p : Int × Int) (a : Addr), o = some p ∧ v = .ref a ∧ H a = some (.tup [.int p.1, .int p.2])
theorem LeastAt.same {H H' : Hp} {v : V} {o : Option (Int × Int)} (h : LeastAt H v o) (s : Same H H') : LeastAt H' v o := by
  rcases h with h | ⟨p, a, h1, h2, h3⟩
  · exact .inl h
  · exact .inr ⟨p, a, h1, h2, s _ _ h3⟩
theorem log_small {i : Int} (h : i.natAbs < 10 ^ 10) : i.natAbs.log2 < 1920 := by
  by_cases z : i.natAbs = 0
  · rw [z]; decide
  · rw [Nat.log2_lt z]
    exact Nat.lt_of_lt_of_le (show i.natAbs < 2 ^ 40 by omega) (Nat.pow_le_pow_right (by decide) (by decide))
def small (i : Int) : Prop := i.natAbs < 10 ^ 10
theorem small_short {i : Int} (h : small i) : (PyData.shown (.int i)).length ≤ 13 := PyData.shown_int_le (Nat.lt_of_lt_of_le h (by decide))
theorem small_w {i : Int} (h : small i) : PyData.weight (.int i) ≤ 40 := by
  simp only [PyData.weight]
  split
  · exact Nat.zero_le _
  · have : i.natAbs.log2 < 40 := by
      by_cases z : i.natAbs = 0
      · rw [z]; decide
      · rw [Nat.log2_lt z]
        exact Nat.lt_of_lt_of_le h (by decide)
    omega
theorem small_show {i : Int} (h : small i) : (PyData.int i).showable = true := by
  simp only [PyData.showable]
  exact decide_eq_true (log_small h)
/-- whole numbers in a tuple -/
theorem tup_show : ∀ (ns : List Int), (∀ i ∈ ns, small i) → ns.length ≤ 10 → (PyData.tuple (ns.map .int)).showable = true ∧ (PyData.tuple (ns.map .int)).hasDict = false ∧ (PyData.tuple (ns.map .int)).depth ≤ 40 ∧ (PyData.tuple (ns.map .int)).shown.length ≤ sizeLine := by
  intro ns hs hl
  have a : ∀ ns : List Int, (∀ i ∈ ns, small i) → PyData.showableAll (ns.map .int) = true ∧ PyData.hasDictAll (ns.map .int) = false ∧ PyData.depthAll (ns.map .int) = 0 ∧ PyData.leavesShortAll 13 (ns.map .int) = true ∧ PyData.weightAll (ns.map .int) ≤ 41 * ns.length := by
    intro ns
    induction ns with
    | nil => exact fun _ => ⟨rfl, rfl, rfl, rfl, Nat.le_refl _⟩
    | cons i ns ih =>
      intro h
      obtain ⟨h1, h2, h3, h4, h5⟩ := ih fun j m => h j (.tail _ m)
      have hi := h i (.head _)
      refine ⟨?_, ?_, ?_, ?_, ?_⟩
      · simp only [List.map_cons, PyData.showableAll, small_show hi, h1, Bool.and_self]
      · simp only [List.map_cons, PyData.hasDictAll, h2, PyData.hasDict, Bool.or_self]
      · simp only [List.map_cons, PyData.depthAll, h3, PyData.depth, Nat.max_self]
      · simp only [List.map_cons, PyData.leavesShortAll, h4, PyData.leavesShort, decide_eq_true (small_short hi), Bool.and_self]
      · simp only [List.map_cons, PyData.weightAll, List.length_cons]
        have := small_w hi
        omega
  obtain ⟨h1, h2, h3, h4, h5⟩ := a ns hs
  refine ⟨by simp only [PyData.showable, h1], by simp only [PyData.hasDict, h2], by simp only [PyData.depth, h3]; decide, PyData.shown_fits (B := 13) (by decide) (by decide) (by simp only [PyData.leavesShort, h4]) ?_⟩
  simp only [PyData.weight]
  omega
theorem rows_show (F : List (List Int)) (h : ∀ e ∈ F, (∀ k ∈ e, small k) ∧ e.length ≤ 4) (hl : F.length ≤ 4) : (rowsD F).showable = true ∧ (rowsD F).hasDict = false ∧ (rowsD F).depth ≤ 40 ∧ (rowsD F).shown.length ≤ sizeLine := by
  have a : ∀ ns : List Int, (∀ i ∈ ns, small i) → PyData.showableAll (ns.map .int) = true ∧ PyData.hasDictAll (ns.map .int) = false ∧ PyData.depthAll (ns.map .int) = 0 ∧ PyData.leavesShortAll 13 (ns.map .int) = true ∧ PyData.weightAll (ns.map .int) ≤ 41 * ns.length := by
    intro ns
    induction ns with
    | nil => exact fun _ => ⟨rfl, rfl, rfl, rfl, Nat.le_refl _⟩
    | cons i ns ih =>
      intro h
      obtain ⟨h1, h2, h3, h4, h5⟩ := ih fun j m => h j (.tail _ m)
      have hi := h i (.head _)
      refine ⟨?_, ?_, ?_, ?_, ?_⟩
      · simp only [List.map_cons, PyData.showableAll, small_show hi, h1, Bool.and_self]
      · simp only [List.map_cons, PyData.hasDictAll, h2, PyData.hasDict, Bool.or_self]
      · simp only [List.map_cons, PyData.depthAll, h3, PyData.depth, Nat.max_self]
      · simp only [List.map_cons, PyData.leavesShortAll, h4, PyData.leavesShort, decide_eq_true (small_short hi), Bool.and_self]
      · simp only [List.map_cons, PyData.weightAll, List.length_cons]
        have := small_w hi
        omega
  have b : ∀ F : List (List Int), (∀ e ∈ F, (∀ k ∈ e, small k) ∧ e.length ≤ 4) → PyData.showableAll (F.map fun r => .tuple (r.map PyData.int)) = true ∧ PyData.hasDictAll (F.map fun r => .tuple (r.map PyData.int)) = false ∧
      PyData.depthAll (F.map fun r => .tuple (r.map PyData.int)) ≤ 1 ∧ PyData.leavesShortAll 13 (F.map fun r => .tuple (r.map PyData.int)) = true ∧ PyData.weightAll (F.map fun r => .tuple (r.map PyData.int)) ≤ 400 * F.length := by
    intro F
    induction F with
    | nil => exact fun _ => ⟨rfl, rfl, Nat.zero_le _, rfl, Nat.le_refl _⟩
    | cons e F ih =>
      intro h
      obtain ⟨h1, h2, h3, h4, h5⟩ := ih fun j m => h j (.tail _ m)
      obtain ⟨he, hl⟩ := h e (.head _)
      obtain ⟨g1, g2, g3, g4, g5⟩ := a e he
      refine ⟨?_, ?_, ?_, ?_, ?_⟩
      · simp only [List.map_cons, PyData.showableAll, PyData.showable, h1, g1, Bool.and_self]
      · simp only [List.map_cons, PyData.hasDictAll, h2, PyData.hasDict, g2, Bool.or_self]
      · simp only [List.map_cons, PyData.depthAll, PyData.depth, g3]
        omega
      · simp only [List.map_cons, PyData.leavesShortAll, h4, PyData.leavesShort, g4, Bool.and_self]
      · simp only [List.map_cons, PyData.weightAll, PyData.weight, List.length_cons]
        omega
  obtain ⟨h1, h2, h3, h4, h5⟩ := b F h
  refine ⟨by simp only [rowsD, PyData.showable, h1], by simp only [rowsD, PyData.hasDict, h2], by simp only [rowsD, PyData.depth]; omega, PyData.shown_fits (B := 13) (by decide) (by decide) (by simp only [rowsD, PyData.leavesShort, h4]) ?_⟩
  simp only [rowsD, PyData.weight]
  omega
theorem small_of {k : Int} (h : 0 ≤ k ∧ k < 4) : small k := by unfold small; omega
theorem bl_show : ∀ b : Bool, (PyData.bool b).showable = true ∧ (PyData.bool b).hasDict = false ∧ (PyData.bool b).depth ≤ 40 ∧ (PyData.bool b).shown.length ≤ 1000 := by decide +kernel
def dO : Option (Int × Int) → PyData
  | none => .none
  | some p => .tuple [.int p.1, .int p.2]
theorem LeastAt.dp {K : PySem.W.Frag} {H : Hp} {v : V} {o : Option (Int × Int)} (h : LeastAt H v o) : Dp K H v (dO o) := by
  rcases h with ⟨rfl, rfl⟩ | ⟨p, a, rfl, rfl, h⟩
  · exact .non
  · exact .tup (SqT.of h) (.cons (.int _) (.cons (.int _) .nil))
theorem dO_show (o : Option (Int × Int)) (h : ∀ p, o = some p → small p.1 ∧ small p.2) : (dO o).showable = true ∧ (dO o).hasDict = false ∧ (dO o).depth ≤ 40 ∧ (dO o).shown.length ≤ sizeLine := by
  cases o with
  | none => exact ⟨by decide +kernel, by decide +kernel, by decide +kernel, by decide +kernel⟩
  | some p =>
    obtain ⟨a, b⟩ := h p rfl
    exact tup_show [p.1, p.2] (fun i hi => by
      rcases List.mem_cons.mp hi with rfl | hi
      · exact a
      · rw [List.mem_singleton.mp hi]
        exact b) (by show 2 ≤ 10; decide)
theorem parR_small {w : Str} {F G : List (List Int)} : ∀ p, parR w F G = some p → small p.1 ∧ small p.2 := fun p hp => by
  have in4 : ∀ s ∈ stN w, small s := fun s hs => by
    have := stN_4 w s hs
    unfold St4 at this
    unfold small
    omega
  obtain ⟨s, hs, h⟩ := List.exists_of_findSome?_eq_some hp
  obtain ⟨k, hk, rfl⟩ := Option.map_eq_some_iff.mp h
  exact ⟨in4 s hs, in4 k (List.mem_of_find?_eq_some hk)⟩
theorem par_join {C CE e e' k k' : Addr} {r w d : Str} {F F' : List (List Int)} {H : Hp} {Q : VK} {E : XK} (he : EffAt C CE H e k r w d F) (he' : EffAt C CE H e' k' r w d F') (rF : Rw (stN w).length F) (rF' : Rw (stN w).length F')
    (q : ∀ v H', LeastAt H' v (parR w F F') → Same H H' → Q v H') : spPar C CE [.ref e, .ref e'] H Q E :=
  ⟨e, e', k, k', r, w, d, F, F', rfl, he, he', rF, rF', fun hp H' s => q _ _ (.inl ⟨hp, rfl⟩) s, fun s m hp L H' n h st => q _ _ (.inr ⟨(s, m), L, hp, rfl, h⟩) st⟩
def d3 (a b c : Bool) : PyData := .list [.bool a, .bool b, .bool c]
theorem d3_show : ∀ a b c, (d3 a b c).showable = true ∧ (d3 a b c).hasDict = false ∧ (d3 a b c).depth ≤ 40 ∧ (d3 a b c).shown.length ≤ 1000 := by decide +kernel
theorem iteYs {c : Bool} {A B : Prop} (h : c = true) (q : A) : if c = true then A else B := by rw [h]; exact q
theorem iteNS2 {x : Str} {A B : Prop} (q : B) : if (!decide (V.str x = V.str x)) = true then A else B := by
  rw [if_neg (by simp)]
  exact q
section
variable {P : Program} {w : World} {K : PySem.W.Frag} {mg : Str → Option Value} {base : Heap} {C CE aW aI : Addr} {mc : Value}
theorem ok_cmp {fEE fOR fPA fW : Addr} {fdEE fdOR fdPA fdW : FuncData} (D : DefAt K mg "_law_compared" s__law_compared ["_law_one", "_law_other", "_law_words_here"]) (TE : ET K mg CE) (B : B1 mg) (nfE : PySem.W.notFirst K CE (.ref CE) = true)
    (isG : PySem.W.specialIn K (.builtin "object.__class__") "__get__" = some (some (.builtin "getset_descriptor.__get__"))) (isT : PySem.W.takesIn K (.builtin "object.__class__") = some true)
    (c_law_told : Cal P w K mg base 2 "_law_told" (spTold C CE)) (c_law_states : Cal P w K mg base 1 "_law_states" spStates) (ceffect_parting : Cal P w K mg base 4 "effect_parting" (spPar C CE))
    (FEE : Gd P w K mg base CX0 3 fEE fdEE ["self", "other"] (spEE C CE)) (bEE : Binds K fdEE ["self", "other"] []) (eeI : PySem.W.findIn K (.ref CE) "__eq__" = some (some (.ref fEE))) (eeF : PySem.W.isFn K (.ref fEE) = true) (neE : PySem.W.findIn K (.ref CE) "__ne__" = some (some (.builtin "object.__ne__")))
    (hcE : PySem.W.selfFirst K CE = true) (orI : PySem.W.findIn K (.ref CE) "__or__" = some (some (.ref fOR))) (orF : PySem.W.isFn K (.ref fOR) = true) (FOR : Gd P w K mg base CX0 4 fOR fdOR ["self", "other"] (spOr C CE)) (bOR : Binds K fdOR ["self", "other"] [])
    (FPA : Gd P w K mg base CX0 4 fPA fdPA ["a", "b"] (spPar C CE)) (gPA : mg "effect_parting" = some (.ref fPA)) (kPA : PySem.W.keepIn K (.ref fPA) = true) (kbPA : KBn K fdPA ["a", "b"] 0 ["b", "a"] (fun us ws => us ++ ws.reverse) (fun us ws => us ++ ws.reverse))
    (mW : Meth K CE "within" fW) (FW : Gd P w K mg base CX0 4 fW fdW ["self", "b"] (spWin C CE)) (kbW : KBn K fdW ["self", "b"] 1 ["b"] (fun us ws => us ++ ws) (fun us ws => us ++ ws)) (metW : Met P w K mg base 4 CE "within" fW (spWin C CE)) :
    Cal P w K mg base 6 "_law_compared" (spCmp C CE) := by
  refine D.cal (k := 5) sc__law_compared (fun vs H Q E h => ?_) (fun f cdv A outer s0 H vs Q E rm gd h => ?_)
  · obtain ⟨e, e', k, k', t, r, wr, d, F, F', rfl, _⟩ := h
    rfl
  · obtain ⟨e, e', k, k', t, r, wr, d, F, F', rfl, ht, he, he', rF, rF', nF, nF', q⟩ := h
    have clE := TE.cl
    have nK := TE.nK
    refine ⟨_, (pss_cons (ps_par (i := 3) (j := 4) rfl sc__law_compared.nd rfl rfl (by decide) rfl rfl (pa_cons (pc c_law_told rm (by decide) gd rfl (pa_cons (pv 0) (pa_cons (pv 2) pa_nil))) (pa_cons (pc c_law_told rm (by decide) gd rfl (pa_cons (pv 1) (pa_cons (pv 2) pa_nil))) pa_nil)) (by rfl))
    (pss_cons (ps_set (i := 5) sc__law_compared.nd rfl (Or.inl rfl) pe_non)
    (pss_cons (ps_set (i := 6) sc__law_compared.nd rfl (Or.inl rfl) pe_bl)
    (pss_cons (ps_for PassesOwn.never rfl (pi_tup (pe_revT (pc c_law_states rm (by decide) gd rfl (pa_cons (pv 2) pa_nil)))) (pg_name (i := 7) sc__law_compared.nd rfl (Or.inl rfl))
      (pss_one (ps_for PassesOwn.never rfl (pi_tup (pe_revT (pc c_law_states rm (by decide) gd rfl (pa_cons (pv 2) pa_nil)))) (pg_name (i := 8) sc__law_compared.nd rfl (Or.inl rfl))
        (pss_one (ps_if (pt_cmpR op_ne (pe_cmpR op_in_seq (pv 8) (pe_ix ix_tup (pv 3) (pv 7) (fun _ _ => rfl)) rfl) (pe_cmpR op_in_seq (pv 8) (pe_ix ix_tup (pv 4) (pv 7) (fun _ _ => rfl)) rfl) (nomark _))
          (pss_cons (ps_set (i := 5) sc__law_compared.nd rfl (Or.inl rfl) (pe_tup (pa_cons (pv 7) (pa_cons (pv 8) pa_nil))))
          (pss_one (ps_set (i := 6) sc__law_compared.nd rfl (Or.inl rfl) (pe_and (pv 6) (pe_one (pe_cmpR op_notIn_seq (pv 8) (pe_ix ix_tup (pv 3) (pv 7) (fun _ _ => rfl)) rfl))))))
          pss_nil)))))
    (pss_mid (ps_if (PW.pt (pw_or (pt_cmpR op_ne (pe_callB (call_repr rm gd) (by rfl) B.g_repr (by decide +kernel) (pa_cons (pc ceffect_parting rm (by decide) gd rfl (pa_cons (pv 0) (pa_cons (pv 1) pa_nil))) pa_nil)) (pe_callB (call_repr rm gd) (by rfl) B.g_repr (by decide +kernel) (pa_cons (pv 5) pa_nil)) (nomark _)) (pw_or1 (pt_cmpR op_ne (pe_callB (call_repr rm gd) (by rfl) B.g_repr (by decide +kernel) (pa_cons (pe_gcallK FPA (rm.mono (by decide)) gd rfl gPA kPA kbPA pass0 (pk_cons (pv 0) (pk_cons (pv 1) pk_nil))) pa_nil)) (pe_callB (call_repr rm gd) (by rfl) B.g_repr (by decide +kernel) (pa_cons (pv 5) pa_nil)) (nomark _)))))
      (pss_one (ps_ret pe_bl))
      pss_nil)
    (pss_cons (ps_if (pt_cmpR op_ne (pe_callB (call_repr rm gd) (by rfl) B.g_repr (by decide +kernel) (pa_cons (pe_lst (pa_cons (pe_gmethK (pv 0) TE.cl mW FW (rm.mono (by decide)) gd kbW pass0 (pk_cons (pv 1) pk_nil)) (pa_cons (pe_cmpR (op_eqO FEE (rm.mono (by decide)) gd eeI eeF bEE pass0) (pv 0) (pv 1) (nomark _)) (pa_cons (pe_cmpR (op_neO FEE (rm.mono (by decide)) gd eeI eeF neE TE.isM bEE pass0) (pv 0) (pv 1) (nomark _)) pa_nil)))) pa_nil)) (pe_callB (call_repr rm gd) (by rfl) B.g_repr (by decide +kernel) (pa_cons (pe_lst (pa_cons (pv 6) (pa_cons (pe_cmpR op_isN (pv 5) pe_non (nomark _)) (pa_cons (pe_cmpR op_notN (pv 5) pe_non (nomark _)) pa_nil)))) pa_nil)) (nomark _))
      (pss_one (ps_ret pe_bl))
      pss_nil)
    (pss_cons (ps_set (i := 9) sc__law_compared.nd rfl (Or.inl rfl) (pe_op (op_OO hcE orI orF FOR (rm.mono (by decide)) gd bOR pass0) (pv 0) (pv 1)))
    (pss_cons (ps_set (i := 10) sc__law_compared.nd rfl (Or.inl rfl) (pe_callTy call_tuple_of (by rfl) B.g_tuple (by decide +kernel) (pa_cons (pe_lc (own := [("_law_row", 11), ("_law_more", 12)]) (g := (gTup K 2 (gCons (gName 11) (gCons (gName 12) gNil)))) (by rfl) sc__law_compared.nd (RZ.pi_zipA (by rfl) B.g_zip (pa_cons (pv 3) (pa_cons (pv 4) pa_nil))) (blkOk_by (own := [("_law_row", 11), ("_law_more", 12)]) (N := ["_law_one", "_law_other", "_law_words_here", "_law_first", "_law_second", "_law_least", "_law_is_within", "_law_state", "_law_end", "_law_both", "_law_due", "_law_row", "_law_more"]) (sc := defScope s__law_compared) (by decide +kernel)) (fun _ _ _ _ _ => (pg_tup rfl (pgs_cons (pg_name (i := 11) sc__law_compared.nd rfl (Or.inl rfl)) (pgs_cons (pg_name (i := 12) sc__law_compared.nd rfl (Or.inl rfl)) pgs_nil)))) (fun _ _ _ _ _ => pts_nil) (fun _ _ _ _ _ => (show PE _ _ (tCB (rTupOf K) (tCons (tCB (rSortedSet w) (tCons (tCB (rSetT K w) (tCons (tOp (rCatA K) (tVar 11) (tVar 12)) tNil)) tNil)) tNil)) from pe_callTy (T := "tuple") (r := rTupOf K) cr_tupOf (by rfl) B.g_tuple (by decide +kernel) (pa_cons (pe_callB (id := "sorted") (r := rSortedSet w) (cr_sortedSet rfl) (by rfl) B.g_sorted (by decide +kernel) (pa_cons (pe_callTy (T := "set") (r := rSetT K w) (cr_setT rfl) (by rfl) B.g_set (by decide +kernel) (pa_cons (pe_op (r := rCatA K) op_catA (pv 11) (pv 12)) pa_nil)) pa_nil)) pa_nil)))) pa_nil)))
    (pss_mid (ps_if (PW.pt (pw_or (pt_cmpR op_ne (pe_callB (call_repr rm gd) (by rfl) B.g_repr (by decide +kernel) (pa_cons (pc c_law_told rm (by decide) gd rfl (pa_cons (pv 9) (pa_cons (pv 2) pa_nil))) pa_nil)) (pe_callB (call_repr rm gd) (by rfl) B.g_repr (by decide +kernel) (pa_cons (pv 10) pa_nil)) (nomark _)) (pw_or (pt_not (pt_val (pm metW TE.cl rm (by decide) gd (pv 0) (pa_cons (pv 9) pa_nil)))) (pw_or1 (pt_not (pt_val (pm metW TE.cl rm (by decide) gd (pv 1) (pa_cons (pv 9) pa_nil))))))))
      (pss_one (ps_ret pe_bl))
      pss_nil)
    (pss_one (ps_ret (pe_and (pe_cmpR (op_eqO FEE (rm.mono (by decide)) gd eeI eeF bEE pass0) (pv 9) (pe_op (op_OO hcE orI orF FOR (rm.mono (by decide)) gd bOR pass0) (pv 1) (pv 0)) (nomark _)) (pe_one (pe_cmpR op_eq (pe_callB (call_repr rm gd) (by rfl) B.g_repr (by decide +kernel) (pa_cons (pe_cmpR (op_eqO FEE (rm.mono (by decide)) gd eeI eeF bEE pass0) (pv 9) (pv 1) (nomark _)) pa_nil)) (pe_callB (call_repr rm gd) (by rfl) B.g_repr (by decide +kernel) (pa_cons (pv 6) pa_nil)) (nomark _))))))))))))))), ?_⟩
    walk_at "go"
    refine ⟨e, k, t, r, wr, d, F, rfl, ht, he, rF.len, fun a1 H1 n1 h1 s1 => ?_⟩
    walk_at "go"
    refine ⟨e', k', t, r, wr, d, F', rfl, s1 _ _ ht, he'.sm s1, rF'.len, fun a2 H2 n2 h2 s2 => ?_⟩
    walk_at "go"
    refine ⟨_, _, rfl, ?_⟩
    walk_at "go"
    unfold tRevT
    walk_at "go"
    refine ⟨t, r, wr, d, rfl, s2 _ _ (s1 _ _ ht), fun t3 H3 n3 h3 s3 => ?_⟩
    refine ⟨t3, _, rfl, SqT.of h3, fun p3 np3 => ?_⟩
    have s4 : Same H3 (upd H3 p3 (.tup ((stN wr).map V.int).reverse)) := fun b o z => by
      rw [upd_ne (ne_of_none z np3)]
      exact z
    have hp3 : upd H3 p3 (.tup ((stN wr).map V.int).reverse) p3 = some (.tup (((stN wr).reverse).map V.int)) := by
      rw [upd_same, List.map_reverse]
    generalize upd H3 p3 (.tup ((stN wr).map V.int).reverse) = H4 at s4 hp3
    have sH2 : Same H H2 := s1.trans s2
    have s24 : Same H2 H4 := s3.trans s4
    have h1' := (h1.same s2).same s24
    have h2' := h2.same s24
    obtain ⟨ts, g1, g2, g3⟩ := id h1'
    obtain ⟨ts', g1', g2', g3'⟩ := id h2'
    refine over_t (SqT.of hp3) ?_
    refine for_tup (K := K) (a := p3) (xs := ((stN wr).reverse).map V.int) (fun i σ H' => (∃ vL b v7 v8, σ = [some (.ref e), some (.ref e'), some (.ref t), some (.ref a1), some (.ref a2), some vL, some (.bl b), v7, v8, none, none, none, none] ∧ LeastAt H' vL (((stN wr).reverse.take i).foldl (fun acc s => rowP F F' (stN wr) s acc) (none, true)).1 ∧ b = (((stN wr).reverse.take i).foldl (fun acc s => rowP F F' (stN wr) s acc) (none, true)).2) ∧ Same H4 H') ⟨⟨_, _, _, _, rfl, .inl ⟨rfl, rfl⟩, rfl⟩, fun _ _ z => z⟩ (fun i σ H' _ ⟨_, s⟩ => SqT.of (s _ _ hp3)) (fun i y σ H5 hy ⟨⟨vL, b, v7, v8, eσ, lA, eb⟩, s5⟩ => ?_) (fun σ H5 ⟨⟨vL, b, v7, v8, eσ, lA, eb⟩, s5⟩ => ?_)
    · subst eσ
      obtain ⟨s, hs, rfl⟩ := ints_at hy
      have hsm : s ∈ stN wr := List.mem_reverse.mp (List.mem_of_getElem? hs)
      obtain ⟨ix, hix⟩ := List.getElem?_of_mem hsm
      obtain rfl := stN_at hix
      have lix := (List.getElem?_eq_some_iff.mp hix).1
      obtain ⟨e1, he1⟩ : ∃ row, F[ix]? = some row := ⟨_, List.getElem?_eq_getElem (by rw [rF.len]; exact lix)⟩
      obtain ⟨e2, he2⟩ : ∃ row, F'[ix]? = some row := ⟨_, List.getElem?_eq_getElem (by rw [rF'.len]; exact lix)⟩
      obtain ⟨a, ha⟩ : ∃ a, ts[ix]? = some a := ⟨_, List.getElem?_eq_getElem (by rw [g2, rF.len]; exact lix)⟩
      obtain ⟨b2, hb2⟩ : ∃ a, ts'[ix]? = some a := ⟨_, List.getElem?_eq_getElem (by rw [g2', rF'.len]; exact lix)⟩
      have ra := g3 ix a e1 ha he1
      have rb := g3' ix b2 e2 hb2 he2
      have q1 : F.getD ((ix : Int)).toNat [] = e1 := getD_at he1
      have q2 : F'.getD ((ix : Int)).toNat [] = e2 := getD_at he2
      generalize hacc : ((stN wr).reverse.take i).foldl (fun acc s => rowP F F' (stN wr) s acc) (none, true) = acc at lA eb
      have tk : ((stN wr).reverse.take (i + 1)).foldl (fun acc s => rowP F F' (stN wr) s acc) (none, true) = (stN wr).reverse.foldl (fun acc k => stepP F F' ix k acc) acc := by
        rw [List.take_add_one, hs, List.foldl_append, hacc, List.foldl_reverse]
        rfl
      walk_at "go"
      refine ⟨t, r, wr, d, rfl, s5 _ _ (s24 _ _ (sH2 _ _ ht)), fun t6 H6 n6 h6 s6 => ?_⟩
      refine ⟨t6, _, rfl, SqT.of h6, fun p7 np7 => ?_⟩
      have s7 : Same H6 (upd H6 p7 (.tup ((stN wr).map V.int).reverse)) := fun b o z => by
        rw [upd_ne (ne_of_none z np7)]
        exact z
      have hp7 : upd H6 p7 (.tup ((stN wr).map V.int).reverse) p7 = some (.tup (((stN wr).reverse).map V.int)) := by
        rw [upd_same, List.map_reverse]
      generalize upd H6 p7 (.tup ((stN wr).map V.int).reverse) = H7 at s7 hp7
      have s57 := s6.trans s7
      refine over_t (SqT.of hp7) ?_
      refine for_tup (K := K) (a := p7) (xs := ((stN wr).reverse).map V.int) (fun j σ H' => (∃ vL b v8, σ = [some (.ref e), some (.ref e'), some (.ref t), some (.ref a1), some (.ref a2), some vL, some (.bl b), some (.int ix), v8, none, none, none, none] ∧ LeastAt H' vL (((stN wr).reverse.take j).foldl (fun acc k => stepP F F' ix k acc) acc).1 ∧ b = (((stN wr).reverse.take j).foldl (fun acc k => stepP F F' ix k acc) acc).2) ∧ Same H7 H') ⟨⟨_, _, _, rfl, lA.same s57, eb⟩, fun _ _ z => z⟩ (fun i σ H' _ ⟨_, s⟩ => SqT.of (s _ _ hp7)) (fun j y σ H8 hy2 ⟨⟨vL, b, v8, eσ, lA, eb⟩, s8⟩ => ?_) (fun σ H8 ⟨⟨vL, b, v8, eσ, lA, eb⟩, s8⟩ => ?_)
      · subst eσ
        obtain ⟨m, hm, rfl⟩ := ints_at hy2
        have s48 : Same H4 H8 := s5.trans (s57.trans s8)
        rw [List.take_add_one, hm, List.foldl_append]
        generalize ((stN wr).reverse.take j).foldl (fun acc k => stepP F F' ix k acc) acc = ac at lA eb
        simp only [Option.toList_some, List.foldl_cons, List.foldl_nil]
        walk_at "go"
        refine w_ixT (SqT.of (s48 _ _ g1)) (v := .ref a) (atI_nat (by rw [List.getElem?_map, ha]; rfl)) ?_
        refine w_in (.inr (SqT.of (s48 _ _ ra))) rfl (flat_ints _) ?_
        rw [if_neg (by decide), inV_ints]
        walk_at "go"
        refine w_ixT (SqT.of (s48 _ _ g1')) (v := .ref b2) (atI_nat (by rw [List.getElem?_map, hb2]; rfl)) ?_
        refine w_in (.inr (SqT.of (s48 _ _ rb))) rfl (flat_ints _) ?_
        rw [if_neg (by decide), inV_ints]
        walk_at "go"
        have eP : parP F F' ix m = (!decide (V.bl (e1.contains m) = V.bl (e2.contains m))) := by
          unfold parP
          rw [q1, q2]
          cases e1.contains m <;> cases e2.contains m <;> rfl
        rw [← eP]
        unfold stepP
        rw [q1]
        cases hP : parP F F' ix m with
        | false =>
          refine iteF ?_
          rw [if_neg (by decide)]
          exact ⟨⟨_, _, _, rfl, lA, eb⟩, s8⟩
        | true =>
          refine iteT ?_
          rw [if_pos rfl]
          walk_at "go"
          refine new (show 2 ≤ sizeLine by decide) fun L9 H9 n9 h9 s9 => ?_
          walk_at "go"
          have s49 := s48.trans s9
          cases b with
          | false =>
            refine iteF ?_
            exact ⟨⟨_, _, _, rfl, .inr ⟨((ix : Int), m), L9, rfl, rfl, h9⟩, by rw [← eb]; rfl⟩, s8.trans s9⟩
          | true =>
            refine iteT ?_
            walk_at "go"
            refine w_ixT (SqT.of (s49 _ _ g1)) (v := .ref a) (atI_nat (by rw [List.getElem?_map, ha]; rfl)) ?_
            refine w_in (.inr (SqT.of (s49 _ _ ra))) rfl (flat_ints _) ?_
            rw [if_pos rfl, inV_ints]
            exact ⟨⟨_, _, _, rfl, .inr ⟨((ix : Int), m), L9, rfl, rfl, h9⟩, by rw [← eb]; rfl⟩, s8.trans s9⟩
      · subst eσ
        rw [List.length_map, List.take_length] at lA eb
        rw [tk]
        exact ⟨⟨_, _, _, _, rfl, lA, eb⟩, s5.trans (s57.trans s8)⟩
    · subst eσ
      rw [List.length_map, List.take_length, List.foldl_reverse] at lA eb
      have eA : (stN wr).foldr (fun s acc => rowP F F' (stN wr) s acc) (none, true) = allP F F' (stN wr) (stN wr) (none, true) := rfl
      rw [eA, par_walk] at lA
      rw [eA, win_walk rF] at eb
      have sH5 : Same H H5 := sH2.trans (s24.trans s5)
      have he5 := he.sm sH5
      have he5' := he'.sm sH5
      have h1'' := h1'.same s5
      have h2'' := h2'.same s5
      obtain ⟨o1, o2, o3, o4⟩ := dO_show (parR wr F F') parR_small
      walk_at "go"
      refine w_mid (fun σ' H' => σ' = [some (.ref e), some (.ref e'), some (.ref t), some (.ref a1), some (.ref a2), some vL, some (.bl b), v7, v8, none, none, none, none] ∧ Same H5 H') ?_ ?_
      · walk_at "go"
        refine par_join he5 he5' rF rF' fun v6 H6 l6 s6 => ?_
        walk_at "go"
        refine ⟨v6, _, rfl, l6.dp, o1, o2, o3, o4, ?_⟩
        walk_at "go"
        refine ⟨vL, _, rfl, (lA.same s6).dp, o1, o2, o3, o4, ?_⟩
        walk_at "go"
        refine iteNS2 ?_
        walk_at "go"
        refine ⟨rfl, par_join (he5'.sm s6) (he5.sm s6) rF' rF fun v7 H7 l7 s7 => ?_⟩
        rw [parR_sym] at l7
        walk_at "go"
        refine ⟨v7, _, rfl, l7.dp, o1, o2, o3, o4, ?_⟩
        walk_at "go"
        refine ⟨vL, _, rfl, (lA.same (s6.trans s7)).dp, o1, o2, o3, o4, ?_⟩
        walk_at "go"
        refine iteNo (by simp) ?_
        exact ⟨rfl, s6.trans s7⟩
      · rintro σ' H6 ⟨rfl, s6⟩
        have eE : (decide (r = r) && decide (wr = wr) && decide (d = d) && (rowsD F).eqv (rowsD F')) = (parR wr F F').isNone := by
          rw [eqv_rows, eq_par rF rF' nF nF']
          simp
        have eN : decide (vL = V.non) = (parR wr F F').isNone := by
          rcases lA with ⟨h1, h2⟩ | ⟨p, a, h1, h2, _⟩
          · rw [h1, h2]
            rfl
          · rw [h1, h2]
            rfl
        generalize hW : (winL F F' (stN wr)).all id = W at eb
        subst eb
        obtain ⟨b1, b2, b3, b4⟩ := d3_show b (parR wr F F').isNone (!(parR wr F F').isNone)
        have he6 := he5.sm s6
        have he6' := he5'.sm s6
        obtain ⟨de, te, i6, _⟩ := id he6
        obtain ⟨de', te', i6', _⟩ := id he6'
        walk_at "go"
        refine ⟨rfl, e, e', k, k', r, wr, d, F, F', rfl, he6, he6', rF, rF', fun H7 s7 => ?_⟩
        rw [hW]
        walk_at "go"
        refine ⟨e, de, _, .ref CE, rfl, s7 _ _ i6, .base (.ins (s7 _ _ i6') clE TE.isC isG isT TE.isM), nfE, ?_⟩
        refine ⟨e, e', k, k', r, wr, d, r, wr, d, F, F', rfl, he6.sm s7, he6'.sm s7, _, rfl, ?_⟩
        rw [if_neg (by decide), eE]
        walk_at "go"
        refine ⟨e, de, _, .ref CE, rfl, s7 _ _ i6, .base (.ins (s7 _ _ i6') clE TE.isC isG isT TE.isM), nfE, ?_⟩
        refine ⟨e, e', k, k', r, wr, d, r, wr, d, F, F', rfl, he6.sm s7, he6'.sm s7, _, rfl, ?_⟩
        rw [if_pos rfl, eE]
        walk_at "go"
        refine new (show 3 ≤ sizeLine by decide) fun p8 H8 n8 h8 s8 => ?_
        walk_at "go"
        refine ⟨.ref p8, d3 _ _ _, rfl, .lst (SqL.of h8) (.cons (.bl _) (.cons (.bl _) (.cons (.bl _) .nil))), b1, b2, b3, Nat.le_trans b4 (by decide), ?_⟩
        walk_at "go"
        refine ⟨rfl, ?_⟩
        rw [eN]
        walk_at "go"
        refine ⟨rfl, ?_⟩
        rw [eN]
        walk_at "go"
        refine new (show 3 ≤ sizeLine by decide) fun p9 H9 n9 h9 s9 => ?_
        walk_at "go"
        refine ⟨.ref p9, d3 _ _ _, rfl, .lst (SqL.of h9) (.cons (.bl _) (.cons (.bl _) (.cons (.bl _) .nil))), b1, b2, b3, Nat.le_trans b4 (by decide), ?_⟩
        walk_at "go"
        refine iteNS2 ?_
        walk_at "go"
        have s69 := s7.trans (s8.trans s9)
        have he9 := he6.sm s69
        have he9' := he6'.sm s69
        refine ⟨e, e', de, de', _, _, rfl, rfl, s69 _ _ i6, s69 _ _ i6', e, e', k, k', r, wr, d, F, F', rfl, he9, he9', rF, rF', fun eB H10 n10 heB s10 => ?_⟩
        walk_at "go"
        have s6A := s6.trans (s69.trans s10)
        obtain ⟨tf, f1, f2, f3⟩ := h1''.same s6A
        obtain ⟨tg, g1, g2, g3⟩ := h2''.same s6A
        refine w_izip ?_
        walk_at "go"
        refine ⟨a1, a2, tf.map V.ref, tg.map V.ref, rfl, .inr ⟨SqT.of f1, SqT.of g1, ?_⟩⟩
        intro D nD
        have zD : Same H10 (upd H10 D (.lst [])) := fun b u e => by
          rw [upd_ne (ne_of_none e nD)]
          exact e
        have lU : (uniR F F').length = (stN wr).length := by unfold uniR; rw [List.length_map, List.length_zip, rF.len, rF'.len, Nat.min_self]
        refine lc_zipT (K := K) (a := a1) (b := a2) (xs := tf.map V.ref) (ys := tg.map V.ref) (by rw [List.length_map, List.length_map, f2, g2, rF.len, rF'.len]) (fun i H' => RowsL H' D ((uniR F F').take i) ∧ Same H10 H') ⟨.nil upd_same, zD⟩ (fun i H' _ ⟨_, s⟩ => ⟨SqT.of (s _ _ f1), SqT.of (s _ _ g1)⟩) (fun i x y Tp K1 K2 hx hy ⟨hD, s1⟩ nT hT s2 => ?_) (fun K1 ⟨hD, s1⟩ => ?_)
        · rw [List.getElem?_map] at hx hy
          obtain ⟨a, ha, rfl⟩ := Option.map_eq_some_iff.mp hx
          obtain ⟨b, hb, rfl⟩ := Option.map_eq_some_iff.mp hy
          have i1 := (List.getElem?_eq_some_iff.mp ha).1
          have i2 := (List.getElem?_eq_some_iff.mp hb).1
          obtain ⟨e1, he1⟩ : ∃ e, F[i]? = some e := ⟨_, List.getElem?_eq_getElem (by omega)⟩
          obtain ⟨e2, he2⟩ : ∃ e, F'[i]? = some e := ⟨_, List.getElem?_eq_getElem (by omega)⟩
          have h1 := s2 _ _ (s1 _ _ (f3 i a e1 ha he1))
          have h2 := s2 _ _ (s1 _ _ (g3 i b e2 hb he2))
          have n4 := stN_len wr
          have l1 := rF.few e1 (List.mem_of_getElem? he1)
          have l2 := rF'.few e2 (List.mem_of_getElem? he2)
          have b4 : ∀ k ∈ e1 ++ e2, 0 ≤ k ∧ k < 4 := fun k hk => by
            rcases List.mem_append.mp hk with hk | hk
            · have := rF.bd e1 (List.mem_of_getElem? he1) k hk
              omega
            · have := rF'.bd e2 (List.mem_of_getElem? he2) k hk
              omega
          have hU : (uniR F F')[i]? = some (asc (e1 ++ e2)) := by
            unfold uniR
            rw [List.getElem?_map, show (F.zip F')[i]? = some (e1, e2) from List.getElem?_zip_eq_some.mpr ⟨he1, he2⟩]
            rfl
          refine ⟨Tp, _, rfl, SqT.of hT, rfl, _, _, rfl, _, _, rfl, rfl, ?_⟩
          walk_at "go"
          refine ⟨rfl, ?_⟩
          try unfold tYes
          refine iteT ?_
          walk_at "go"
          refine w_catA (SqT.of h1) (SqT.of h2) (by rw [List.length_map, List.length_map]; exact Nat.le_trans (show _ ≤ 100 by omega) (by decide)) fun p K3 hp s3 => ?_
          walk_at "go"
          refine ⟨p, e1 ++ e2, rfl, by rw [List.map_append]; exact hp, by rw [List.length_append]; omega, fun aS c na hc => ?_⟩
          have x1 : Same K3 (upd K3 aS (SetO w aS (fun j => decide (j ∈ e1 ++ e2)) c)) := fun b o e => by
            rw [upd_ne (ne_of_none e na)]
            exact e
          have i1 : upd K3 aS (SetO w aS (fun j => decide (j ∈ e1 ++ e2)) c) aS = some (SetO w aS (fun j => decide (j ∈ e1 ++ e2)) c) := upd_same
          show _root_.L2.tNil _ (upd K3 aS (SetO w aS (fun j => decide (j ∈ e1 ++ e2)) c)) _
          generalize upd K3 aS (SetO w aS (fun j => decide (j ∈ e1 ++ e2)) c) = K4 at x1 i1
          walk_at "go"
          have cl : c ≤ 8 := by rw [List.length_append] at hc; omega
          refine ⟨aS, _, c, rfl, i1, by omega, fun ns p4 pw hm _ np => ?_⟩
          have ens : ns = asc (e1 ++ e2) := asc_pick pw hm fun k => by
            rw [decide_eq_true_eq, List.contains_iff_mem]
            exact ⟨fun z => ⟨b4 k z, z⟩, fun z => z.2⟩
          subst ens
          have x2 : Same K4 (upd K4 p4 (.lst ((asc (e1 ++ e2)).map V.int))) := fun b o e => by
            rw [upd_ne (ne_of_none e np)]
            exact e
          have hp4 : upd K4 p4 (.lst ((asc (e1 ++ e2)).map V.int)) p4 = some (.lst ((asc (e1 ++ e2)).map V.int)) := upd_same
          generalize upd K4 p4 (.lst ((asc (e1 ++ e2)).map V.int)) = K5 at x2 hp4 ⊢
          walk_at "go"
          refine ⟨p4, _, rfl, .inl ⟨SqL.of hp4, fun q nq => ?_⟩⟩
          have x3 : Same K5 (upd K5 q (.tup ((asc (e1 ++ e2)).map V.int))) := fun b o e => by
            rw [upd_ne (ne_of_none e nq)]
            exact e
          have sA := s2.trans (s3.trans (x1.trans (x2.trans x3)))
          obtain ⟨acc, j1, j2, j3⟩ := (hD.same sA).snoc (row := asc (e1 ++ e2)) (t := q) upd_same
          rw [List.length_take] at j2
          refine ⟨acc, j1, big_of (by omega), by rw [List.take_add_one, hU]; exact j3, fun b u z => ?_⟩
          rw [upd_ne (ne_of_none z nD)]
          exact sA _ _ (s1 _ _ z)
        · rw [List.length_map, show tf.length = (uniR F F').length by rw [lU, f2, rF.len], List.take_length] at hD
          walk_at "go"
          obtain ⟨xs, hx⟩ := hD.at_
          refine ⟨D, xs, rfl, .inl ⟨SqL.of hx, fun tU nU => ?_⟩⟩
          obtain ⟨xs', hx', _, hU11⟩ := hD.tup nU
          rw [hx] at hx'
          cases hx'
          have s11 : Same K1 (upd K1 tU (.tup xs)) := fun b o z => by
            rw [upd_ne (ne_of_none z nU)]
            exact z
          generalize upd K1 tU (.tup xs) = H11 at s11 hU11
          have sAB := s1.trans s11
          have rU := rF.uniR rF'
          have uw : ∀ x ∈ uniR F F', (∀ k ∈ x, small k) ∧ x.length ≤ 4 := fun x hx => ⟨fun k hk => by
            have := rU.bd x hx k hk
            have := stN_len wr
            exact small_of (by omega), rU.few x hx⟩
          obtain ⟨w1, w2, w3, w4⟩ := rows_show (uniR F F') uw (by rw [lU]; exact stN_len wr)
          have ht11 := sAB _ _ (s6A _ _ (sH5 _ _ ht))
          have heB11 := heB.sm sAB
          have he11 := (he9.sm s10).sm sAB
          have he11' := (he9'.sm s10).sm sAB
          obtain ⟨dB, tB_, iB, _⟩ := id heB11
          obtain ⟨dA, tA_, iA, _⟩ := id he11
          obtain ⟨dA', tA_', iA', _⟩ := id he11'
          walk_at "go"
          refine w_mid (fun σ' H' => σ' = [some (.ref e), some (.ref e'), some (.ref t), some (.ref a1), some (.ref a2), some vL, some (.bl b), v7, v8, some (.ref eB), some (.ref tU), none, none] ∧ Same H11 H') ?_ ?_
          · walk_at "go"
            refine ⟨eB, k, t, r, wr, d, uniR F F', rfl, ht11, heB11, lU, fun a3 H12 n12 h12 s12 => ?_⟩
            walk_at "go"
            refine ⟨.ref a3, rowsD (uniR F F'), rfl, dp_rows h12, w1, w2, w3, w4, ?_⟩
            walk_at "go"
            refine ⟨.ref tU, rowsD (uniR F F'), rfl, dp_rows (hU11.same s12), w1, w2, w3, w4, ?_⟩
            have iA12 := s12 _ _ iA
            walk_at "go"
            refine iteNS2 ?_
            walk_at "go"
            refine ⟨e, eB, k, k, r, wr, d, F, uniR F F', rfl, he11.sm s12, heB11.sm s12, rF, rU, fun H13 s13 => ?_⟩
            rw [win_uni rF rF']
            have iA13 := s13 _ _ (s12 _ _ iA')
            refine ⟨_, rfl, iteNo rfl ?_⟩
            walk_at "go"
            refine ⟨e', eB, k', k, r, wr, d, F', uniR F F', rfl, (he11'.sm s12).sm s13, (heB11.sm s12).sm s13, rF', rU, fun H14 s14 => ?_⟩
            rw [uni_sym rF.len rF'.len, win_uni rF' rF]
            refine ⟨_, rfl, iteNo rfl ?_⟩
            exact ⟨rfl, s12.trans (s13.trans s14)⟩
          · rintro σ' H12 ⟨rfl, s12⟩
            obtain ⟨c1, c2, c3, c4⟩ := bl_show b
            walk_at "go"
            refine ⟨e', e, dA', dA, _, _, rfl, rfl, s12 _ _ iA', s12 _ _ iA, e', e, k', k, r, wr, d, F', F, rfl, he11'.sm s12, he11.sm s12, rF', rF, fun eC H13 n13 heC s13 => ?_⟩
            obtain ⟨dC, tC_, iC, _⟩ := id heC
            have sAll : Same H H13 := sH5.trans (s6A.trans (sAB.trans (s12.trans s13)))
            walk_at "go"
            refine ⟨eB, dB, _, .ref CE, rfl, s13 _ _ (s12 _ _ iB), .base (.ins iC clE TE.isC isG isT TE.isM), nfE, ?_⟩
            refine ⟨eB, eC, k, k', r, wr, d, r, wr, d, uniR F F', uniR F' F, rfl, (heB11.sm s12).sm s13, heC, _, rfl, _, rfl, ?_⟩
            refine iteYs (by rw [eqv_rows, uni_sym rF.len rF'.len]; simp) ?_
            walk_at "go"
            refine ⟨eB, dB, _, .ref CE, rfl, s13 _ _ (s12 _ _ iB), .base (.ins (s13 _ _ (s12 _ _ iA')) clE TE.isC isG isT TE.isM), nfE, ?_⟩
            refine ⟨eB, e', k, k', r, wr, d, r, wr, d, uniR F F', F', rfl, (heB11.sm s12).sm s13, (he11'.sm s12).sm s13, _, rfl, ?_⟩
            have eU : (decide (r = r) && decide (wr = wr) && decide (d = d) && (rowsD (uniR F F')).eqv (rowsD F')) = b := by
              rw [eqv_rows, uni_eq rF rF' nF', hW]
              simp
            rw [if_neg (by decide), eU]
            walk_at "go"
            refine ⟨.bl b, .bool b, rfl, .bl _, c1, c2, c3, Nat.le_trans c4 (by decide), ?_⟩
            walk_at "go"
            refine ⟨.bl b, .bool b, rfl, .bl _, c1, c2, c3, Nat.le_trans c4 (by decide), ?_⟩
            walk_at "go"
            rw [decide_eq_true rfl]
            exact q _ sAll
end
end Law

set_option Elab.async false
set_option linter.all false
set_option maxRecDepth 100000
set_option maxHeartbeats 4000000
namespace Law
open PySem PySem.Spec PySem.Calls PyProof.Rows L2 KG LamX
local macro_rules | `(tactic| walk_at "1") => `(tactic| first
  | (with_reducible refine w_var rfl ?_) | (with_reducible refine w_c ?_) | (with_reducible refine w_seq ?_) | (with_reducible refine w_asg ?_) | (with_reducible refine w_gname ?_) | (with_reducible refine w_op ?_) | (with_reducible refine w_un ?_)
  | (with_reducible refine w_add ?_) | (with_reducible refine w_sub ?_) | ((with_reducible refine' w_mod ?mo ?_); (case mo => first | assumption | decide | omega)) | (with_reducible refine w_and ?_) | (with_reducible refine w_or ?_) | (with_reducible refine w_xor ?_)
  | (with_reducible refine w_gt ?_) | (with_reducible refine w_lt ?_) | (with_reducible refine w_ge ?_) | (with_reducible refine w_le ?_) | ((with_reducible refine' w_eq ?sc ?_); (case sc => rfl)) | ((with_reducible refine' w_ne ?sc ?_); (case sc => rfl))
  | (with_reducible refine w_ret ?_) | (with_reducible refine w_next ?_) | (with_reducible refine w_ifs ?_) | (with_reducible refine w_ifx ?_) | (with_reducible refine w_test ?_) | (with_reducible refine w_tB ?_) | (with_reducible refine w_bl ?_)
  | ((with_reducible refine' w_ixL ?ixh ?ixa ?_); (case ixh => first | exact SqL.of (by assumption)); (case ixa => first | rfl | skip)) | ((with_reducible refine' w_ixT ?ixh ?ixa ?_); (case ixh => first | exact SqT.of (by assumption)); (case ixa => first | rfl | skip))
  | ((with_reducible refine' w_fld ?_)) | ((with_reducible refine' fld ?fh ?fc ?fn ?fl ?_); (case fh => assumption); (case fc => assumption); (case fn => assumption); (case fl => rfl)) | (with_reducible refine w_sfld ?_)
  | (with_reducible refine Or.inl ⟨_, rfl, ?_⟩) | (with_reducible refine w_gsub ?_) | (with_reducible refine w_andV ?_) | (with_reducible refine w_orV ?_)
  | (with_reducible refine w_nil ?_) | (with_reducible refine w_cons ?_) | (with_reducible refine w_tup ?_) | (with_reducible refine w_lst ?_) | (with_reducible refine w_and2 ?_) | (with_reducible refine w_or2 ?_) | (with_reducible refine w_not ?_) | (with_reducible refine w_cb ?_) | (with_reducible refine w_call ?_) | (with_reducible refine w_par ?_) | (with_reducible refine w_pnil ?_) | (with_reducible refine w_pcons ?_) | (with_reducible refine w_dput ?_) | (with_reducible refine w_dget ?_) | (with_reducible refine w_for ?_) | (with_reducible refine w_itup ?_) | (with_reducible refine w_ilist ?_) | (with_reducible refine w_irng ?_) | (with_reducible refine w_meth ?_) | (with_reducible refine w_make ?_) | (with_reducible refine w_makeK ?_) | (with_reducible refine w_methK ?_) | ((with_reducible refine' mth ?mh ?ml ?_); (case mh => assumption); (case ml => rfl)) | (with_reducible refine w_drop ?_))
local macro_rules | `(tactic| walk_at "go") => `(tactic| ((repeat (walk_at "1")); try dsimp only))
local macro_rules | `(tactic| walk_at "1") => `(tactic| first
  | (with_reducible refine w_notV ?_) | (with_reducible refine w_callK ?_) | (with_reducible refine w_lc ?_) | (with_reducible refine w_chain ?_) | (with_reducible refine w_neg ?_) | ((with_reducible refine' w_shr ?mo ?_); (case mo => first | assumption | omega)))
def spMix (C CE : Addr) : Sp := fun vs H Q _ => ∃ (e e' k k' t : Addr) (r w d : Str) (F F' : List (List Int)), vs = [.ref e, .ref e', .ref t] ∧ H t = some (.tup [.str r, .str w, .str d]) ∧ EffAt C CE H e k r w d F ∧ EffAt C CE H e' k' r w d F' ∧ Rw (stN w).length F ∧ Rw (stN w).length F' ∧ NR F ∧ NR F' ∧ ∀ H', Same H H' → Q (.bl true) H'
section
variable {P : Program} {w : World} {K : PySem.W.Frag} {mg : Str → Option Value} {base : Heap} {C CE aW aI : Addr} {mc : Value}
theorem ok_mix {fE fMU : Addr} {fdE fdMU : FuncData} (D : DefAt K mg "_law_mixed_right" s__law_mixed_right ["_law_one", "_law_mixed", "_law_words_here"]) (TE : ET K mg CE) (T : KT K w mg C aW aI mc) (B : B1 mg)
    (c_law_told : Cal P w K mg base 2 "_law_told" (spTold C CE)) (c_law_put : Cal P w K mg base 1 "_law_put" spJoin) (c_law_compared : Cal P w K mg base 6 "_law_compared" (spCmp C CE))
    (hcE : PySem.W.selfFirst K CE = true) (muI : PySem.W.findIn K (.ref CE) "__mul__" = some (some (.ref fMU))) (muF : PySem.W.isFn K (.ref fMU) = true) (FMU : Gd P w K mg base CX0 4 fMU fdMU ["self", "other"] (spMul C CE)) (bMU : Binds K fdMU ["self", "other"] [])
    (FEQ : Gd P w K mg base CX0 1 fE fdE ["self", "other"] (spEQ C)) (bEQ : Binds K fdE ["self", "other"] []) (eqI : PySem.W.findIn K (.ref C) "__eq__" = some (some (.ref fE))) (eqF : PySem.W.isFn K (.ref fE) = true) (nfC : PySem.W.notFirst K C (.ref C) = true) :
    Cal P w K mg base 7 "_law_mixed_right" (spMix C CE) := by
  refine D.cal (k := 6) sc__law_mixed_right (fun vs H Q E h => ?_) (fun f cdv A outer s0 H vs Q E rm gd h => ?_)
  · obtain ⟨e, e', k, k', t, r, wr, d, F, F', rfl, _⟩ := h
    rfl
  · obtain ⟨e, e', k, k', t, r, wr, d, F, F', rfl, ht, he, he', rF, rF', nF, nF', q⟩ := h
    have clE := TE.cl
    have nK := TE.nK
    refine ⟨_, (pss_cons (ps_par (i := 3) (j := 4) rfl sc__law_mixed_right.nd rfl rfl (by decide) rfl rfl (pa_cons (pc c_law_told rm (by decide) gd rfl (pa_cons (pv 0) (pa_cons (pv 2) pa_nil))) (pa_cons (pc c_law_told rm (by decide) gd rfl (pa_cons (pv 1) (pa_cons (pv 2) pa_nil))) pa_nil)) (by rfl))
    (pss_cons (ps_par (i := 5) (j := 6) rfl sc__law_mixed_right.nd rfl rfl (by decide) rfl rfl (pa_cons (pe_op (op_OO hcE muI muF FMU (rm.mono (by decide)) gd bMU pass0) (pv 0) (pv 1)) (pa_cons (pe_op (op_OO hcE muI muF FMU (rm.mono (by decide)) gd bMU pass0) (pv 1) (pv 0)) pa_nil)) (by rfl))
    (pss_mid (ps_if (PW.pt (pw_or (pt_cmpR (op_neD rm.units) (pc c_law_told rm (by decide) gd rfl (pa_cons (pv 5) (pa_cons (pv 2) pa_nil))) (pc c_law_put rm (by decide) gd rfl (pa_cons (pv 3) (pa_cons (pv 4) pa_nil))) (nomark _)) (pw_or1 (pt_cmpR (op_neD rm.units) (pc c_law_told rm (by decide) gd rfl (pa_cons (pv 6) (pa_cons (pv 2) pa_nil))) (pc c_law_put rm (by decide) gd rfl (pa_cons (pv 4) (pa_cons (pv 3) pa_nil))) (nomark _)))))
      (pss_one (ps_ret pe_bl))
      pss_nil)
    (pss_one (ps_ret (pe_and (pe_cmpR (op_eqO FEQ (rm.mono (by decide)) gd eqI eqF bEQ pass0) (pe_fld (pv 5) rfl) (pe_fld (pv 0) rfl) (nomark _)) (pe_and (pc c_law_compared rm (by decide) gd rfl (pa_cons (pv 0) (pa_cons (pv 1) (pa_cons (pv 2) pa_nil)))) (pe_one (pc c_law_compared rm (by decide) gd rfl (pa_cons (pv 5) (pa_cons (pv 6) (pa_cons (pv 2) pa_nil)))))))))))), ?_⟩
    walk_at "go"
    refine ⟨e, k, t, r, wr, d, F, rfl, ht, he, rF.len, fun a1 H1 n1 h1 s1 => ?_⟩
    walk_at "go"
    refine ⟨e', k', t, r, wr, d, F', rfl, s1 _ _ ht, he'.sm s1, rF'.len, fun a2 H2 n2 h2 s2 => ?_⟩
    walk_at "go"
    refine ⟨_, _, rfl, ?_⟩
    have s12 := s1.trans s2
    have he2 := he.sm s12
    have he2' := he'.sm s12
    obtain ⟨de, te, i2, _⟩ := id he2
    obtain ⟨de', te', i2', _⟩ := id he2'
    walk_at "go"
    refine ⟨e, e', de, de', _, _, rfl, rfl, i2, i2', e, e', k, k', r, wr, d, F, F', rfl, he2, he2', rF, rF', fun eA H3 n3 heA s3 => ?_⟩
    walk_at "go"
    refine ⟨e', e, de', de, _, _, rfl, rfl, s3 _ _ i2', s3 _ _ i2, e', e, k', k, r, wr, d, F', F, rfl, he2'.sm s3, he2.sm s3, rF', rF, fun eB H4 n4 heB s4 => ?_⟩
    walk_at "go"
    refine ⟨_, _, rfl, ?_⟩
    have s24 := s3.trans s4
    have sH4 : Same H H4 := s12.trans s24
    have heA4 := heA.sm s4
    have h1' := (h1.same s2).same s24
    have h2' := h2.same s24
    have rA := rF.joinR rF'
    have rB := rF'.joinR rF
    have n4w := stN_len wr
    walk_at "go"
    refine w_mid (fun σ' H' => σ' = [some (.ref e), some (.ref e'), some (.ref t), some (.ref a1), some (.ref a2), some (.ref eA), some (.ref eB)] ∧ Same H4 H') ?_ ?_
    · walk_at "go"
      refine ⟨eA, k, t, r, wr, d, joinR F F', rfl, sH4 _ _ ht, heA4, rA.len, fun a5 H5 n5 h5 s5 => ?_⟩
      walk_at "go"
      refine ⟨a1, a2, F, F', _, rfl, h1'.same s5, h2'.same s5, rF, rF', n4w, fun a6 H6 n6 h6 s6 => ?_⟩
      walk_at "go"
      refine ⟨_, _, dp_rows (h5.same s6), dp_rows h6, sh_rows _, sh_rows _, ?_⟩
      have s46 := s5.trans s6
      refine ⟨_, rfl, iteNo (by rw [eqv_rows]; simp) ?_⟩
      walk_at "go"
      refine ⟨eB, k', t, r, wr, d, joinR F' F, rfl, s46 _ _ (sH4 _ _ ht), heB.sm s46, rB.len, fun a7 H7 n7 h7 s7 => ?_⟩
      walk_at "go"
      refine ⟨a2, a1, F', F, _, rfl, (h2'.same s46).same s7, (h1'.same s46).same s7, rF', rF, n4w, fun a8 H8 n8 h8 s8 => ?_⟩
      walk_at "go"
      refine ⟨_, _, dp_rows (h7.same s8), dp_rows h8, sh_rows _, sh_rows _, ?_⟩
      refine ⟨_, rfl, iteNo (by rw [eqv_rows]; simp) ?_⟩
      exact ⟨rfl, s46.trans (s7.trans s8)⟩
    · rintro σ' H5 ⟨rfl, s5⟩
      have he5 := (he2.sm s24).sm s5
      have he5' := (he2'.sm s24).sm s5
      have heA5 := heA4.sm s5
      have heB5 := heB.sm s5
      obtain ⟨dA, tA_, iA, hkA, _⟩ := id heA5
      obtain ⟨d5, t5_, i5, hk5, _⟩ := id he5
      obtain ⟨dk, sk, hk1, _⟩ := id hkA
      have ht5 := s5 _ _ (sH4 _ _ ht)
      walk_at "go"
      refine ⟨k, dk, _, .ref C, rfl, hk1, ty_kind T hkA, nfC, k, k, r, wr, d, r, wr, d, rfl, hkA, hkA, _, rfl, _, rfl, iteYs (by simp) ?_⟩
      walk_at "go"
      refine ⟨e, e', k, k', t, r, wr, d, F, F', rfl, ht5, he5, he5', rF, rF', nF, nF', fun H6 s6 => ?_⟩
      refine ⟨_, rfl, iteYs rfl ?_⟩
      walk_at "go"
      refine ⟨eA, eB, k, k', t, r, wr, d, joinR F F', joinR F' F, rfl, s6 _ _ ht5, heA5.sm s6, heB5.sm s6, rA, rB, joinR_nr _ _, joinR_nr _ _, fun H7 s7 => ?_⟩
      exact q _ (sH4.trans (s5.trans (s6.trans s7)))
end
end Law

set_option Elab.async false
set_option linter.all false
set_option maxRecDepth 100000
set_option maxHeartbeats 4000000
namespace Law
open PySem PySem.Spec PySem.Calls PyProof.Rows L2 KG LamX
local macro_rules | `(tactic| walk_at "1") => `(tactic| first
  | (with_reducible refine w_var rfl ?_) | (with_reducible refine w_c ?_) | (with_reducible refine w_seq ?_) | (with_reducible refine w_asg ?_) | (with_reducible refine w_gname ?_) | (with_reducible refine w_op ?_) | (with_reducible refine w_un ?_)
  | (with_reducible refine w_add ?_) | (with_reducible refine w_sub ?_) | ((with_reducible refine' w_mod ?mo ?_); (case mo => first | assumption | decide | omega)) | (with_reducible refine w_and ?_) | (with_reducible refine w_or ?_) | (with_reducible refine w_xor ?_)
  | (with_reducible refine w_gt ?_) | (with_reducible refine w_lt ?_) | (with_reducible refine w_ge ?_) | (with_reducible refine w_le ?_) | ((with_reducible refine' w_eq ?sc ?_); (case sc => rfl)) | ((with_reducible refine' w_ne ?sc ?_); (case sc => rfl))
  | (with_reducible refine w_ret ?_) | (with_reducible refine w_next ?_) | (with_reducible refine w_ifs ?_) | (with_reducible refine w_ifx ?_) | (with_reducible refine w_test ?_) | (with_reducible refine w_tB ?_) | (with_reducible refine w_bl ?_)
  | ((with_reducible refine' w_ixL ?ixh ?ixa ?_); (case ixh => first | exact SqL.of (by assumption)); (case ixa => first | rfl | skip)) | ((with_reducible refine' w_ixT ?ixh ?ixa ?_); (case ixh => first | exact SqT.of (by assumption)); (case ixa => first | rfl | skip))
  | ((with_reducible refine' w_fld ?_)) | ((with_reducible refine' fld ?fh ?fc ?fn ?fl ?_); (case fh => assumption); (case fc => assumption); (case fn => assumption); (case fl => rfl)) | (with_reducible refine w_sfld ?_)
  | (with_reducible refine Or.inl ⟨_, rfl, ?_⟩) | (with_reducible refine w_gsub ?_) | (with_reducible refine w_andV ?_) | (with_reducible refine w_orV ?_)
  | (with_reducible refine w_nil ?_) | (with_reducible refine w_cons ?_) | (with_reducible refine w_tup ?_) | (with_reducible refine w_lst ?_) | (with_reducible refine w_and2 ?_) | (with_reducible refine w_or2 ?_) | (with_reducible refine w_not ?_) | (with_reducible refine w_cb ?_) | (with_reducible refine w_call ?_) | (with_reducible refine w_par ?_) | (with_reducible refine w_pnil ?_) | (with_reducible refine w_pcons ?_) | (with_reducible refine w_dput ?_) | (with_reducible refine w_dget ?_) | (with_reducible refine w_for ?_) | (with_reducible refine w_itup ?_) | (with_reducible refine w_ilist ?_) | (with_reducible refine w_irng ?_) | (with_reducible refine w_meth ?_) | (with_reducible refine w_make ?_) | (with_reducible refine w_makeK ?_) | (with_reducible refine w_methK ?_) | ((with_reducible refine' mth ?mh ?ml ?_); (case mh => assumption); (case ml => rfl)) | (with_reducible refine w_drop ?_))
local macro_rules | `(tactic| walk_at "go") => `(tactic| ((repeat (walk_at "1")); try dsimp only))
local macro_rules | `(tactic| walk_at "1") => `(tactic| first
  | (with_reducible refine w_notV ?_) | (with_reducible refine w_callK ?_) | (with_reducible refine w_lc ?_) | (with_reducible refine w_chain ?_) | (with_reducible refine w_neg ?_) | ((with_reducible refine' w_shr ?mo ?_); (case mo => first | assumption | omega)))
theorem join_getD (G H : List (List Int)) (l : Nat) : (joinR G H).getD l [] = pick fun k => (G.getD l []).any fun m => (H.getD m.toNat []).contains k := by
  unfold joinR
  rw [List.getD_eq_getElem?_getD, List.getD_eq_getElem?_getD, List.getElem?_map]
  cases G[l]? with
  | some e => rfl
  | none => rfl
theorem join_mem {G H : List (List Int)} {l : Nat} {k : Int} : k ∈ (joinR G H).getD l [] ↔ (0 ≤ k ∧ k < 4) ∧ ∃ m ∈ G.getD l [], k ∈ H.getD m.toNat [] := by
  rw [join_getD, pick_mem, List.any_eq_true]
  simp only [List.contains_iff_mem]
def In4 (F : List (List Int)) : Prop := ∀ l : Nat, ∀ m ∈ F.getD l [], 0 ≤ m ∧ m < 4
theorem Rw.in4 {n : Nat} {F : List (List Int)} (h : Rw n F) (n4 : n ≤ 4) : In4 F := fun l m hm => by
  rw [List.getD_eq_getElem?_getD] at hm
  cases z : F[l]? with
  | none => rw [z] at hm; cases hm
  | some e =>
    rw [z] at hm
    have := h.bd e (List.mem_of_getElem? z) m hm
    omega
theorem join_assoc (F : List (List Int)) {G H : List (List Int)} (hG : In4 G) : joinR (joinR F G) H = joinR F (joinR G H) := by
  have e : ∀ F : List (List Int), joinR F (joinR G H) = F.map fun e => pick fun k => e.any fun m => ((joinR G H).getD m.toNat []).contains k := fun _ => rfl
  rw [e]
  unfold joinR
  rw [List.map_map]
  refine List.map_congr_left fun e _ => ?_
  refine asc_uniq (pick_asc _) (pick_asc _) fun k => ?_
  show k ∈ (pick fun k => (pick fun k => e.any fun m => (G.getD m.toNat []).contains k).any fun m => (H.getD m.toNat []).contains k) ↔ k ∈ pick fun k => e.any fun m => ((joinR G H).getD m.toNat []).contains k
  rw [pick_mem, pick_mem, List.any_eq_true, List.any_eq_true]
  simp only [pick_mem, List.contains_iff_mem, List.any_eq_true, join_mem]
  constructor
  · rintro ⟨h4, m, ⟨_, l, hl, hm⟩, hk⟩
    exact ⟨h4, l, hl, h4, m, hm, hk⟩
  · rintro ⟨h4, l, hl, _, m, hm, hk⟩
    exact ⟨h4, m, ⟨hG _ m hm, l, hl, hm⟩, hk⟩
theorem betw_idem0 : ∀ w ∈ WR, ∀ d ∈ DV, joinR (betw true w d) (betw true w d) = betw true w d ∧ joinR (betw false w d) (betw false w d) = betw false w d := by decide +kernel
theorem betw_idem {q : Bool} {w d : Str} (hw : w ∈ WR) (hd : d ∈ DV) : joinR (betw q w d) (betw q w d) = betw q w d := by
  cases q
  · exact (betw_idem0 w hw d hd).2
  · exact (betw_idem0 w hw d hd).1
theorem snoc_ind {α : Type} {p : List α → Prop} (h0 : p []) (h1 : ∀ l x, p l → p (l ++ [x])) (l : List α) : p l := by
  have : ∀ l : List α, p l.reverse := by
    intro l
    induction l with
    | nil => exact h0
    | cons x l ih =>
      rw [List.reverse_cons]
      exact h1 _ _ ih
  have h := this l.reverse
  rwa [List.reverse_reverse] at h
theorem of_betw {q : Bool} {r w d : Str} (kd : Kd r w d) (cs : List Nat) : joinR (ofR q r w d cs) (betw q w d) = ofR q r w d cs := by
  have n4 := stN_len w
  have b4 : In4 (betw q w d) := (betw_rw kd.2.1 kd.2.2).in4 n4
  refine snoc_ind (p := fun cs => joinR (ofR q r w d cs) (betw q w d) = ofR q r w d cs) (betw_idem kd.2.1 kd.2.2) (fun l c _ => ?_) cs
  rw [ofR_snoc]
  unfold stepR
  rw [join_assoc _ b4, betw_idem kd.2.1 kd.2.2]
/-- letters put together -/
theorem of_app {q : Bool} {r w d : Str} (kd : Kd r w d) (cs ds : List Nat) (hd : ∀ c ∈ ds, c ∈ ("01r" : Str).cps.toList) : joinR (ofR q r w d cs) (ofR q r w d ds) = ofR q r w d (cs ++ ds) := by
  have n4 := stN_len w
  have b4 : In4 (betw q w d) := (betw_rw kd.2.1 kd.2.2).in4 n4
  refine snoc_ind (p := fun ds => (∀ c ∈ ds, c ∈ ("01r" : Str).cps.toList) → joinR (ofR q r w d cs) (ofR q r w d ds) = ofR q r w d (cs ++ ds)) (fun _ => ?_) (fun l c ih hl => ?_) ds hd
  · rw [List.append_nil]
    exact of_betw kd cs
  · have hl' : ∀ c ∈ l, c ∈ ("01r" : Str).cps.toList := fun x hx => hl x (List.mem_append_left _ hx)
    have hc := sign_of (hl c (List.mem_append_right _ List.mem_cons_self))
    have rl : Rw (stN w).length (ofR q r w d l) := ofR_rw kd l hl' _ (betw_rw kd.2.1 kd.2.2)
    have l4 : In4 (letR r w (one c)) := (letR_rw kd.1 kd.2.1 hc).in4 n4
    rw [ofR_snoc, ← List.append_assoc, ofR_snoc]
    unfold stepR
    rw [← join_assoc _ ((rl.joinR (letR_rw kd.1 kd.2.1 hc)).in4 n4), ← join_assoc _ (rl.in4 n4), ih hl']
theorem uni_getD {n : Nat} {G H : List (List Int)} (hG : G.length = n) (hH : H.length = n) (l : Nat) : (uniR G H).getD l [] = asc (G.getD l [] ++ H.getD l []) := by
  rcases Nat.lt_or_ge l n with lt | ge
  · have a := List.getElem?_eq_getElem (l := G) (i := l) (by omega)
    have b := List.getElem?_eq_getElem (l := H) (i := l) (by omega)
    rw [List.getD_eq_getElem?_getD, List.getD_eq_getElem?_getD, List.getD_eq_getElem?_getD, uni_at a b, a, b]
    rfl
  · rw [List.getD_eq_getElem?_getD, List.getD_eq_getElem?_getD, List.getD_eq_getElem?_getD, List.getElem?_eq_none (by rw [uni_len hG hH]; exact ge), List.getElem?_eq_none (by omega), List.getElem?_eq_none (by omega)]
    rfl
/-- a product of a union is the union of the products -/
theorem join_uni {n : Nat} (F : List (List Int)) {G H : List (List Int)} (hG : G.length = n) (hH : H.length = n) : joinR F (uniR G H) = uniR (joinR F G) (joinR F H) := by
  have lj : ∀ G : List (List Int), (joinR F G).length = F.length := fun G => by unfold joinR; rw [List.length_map]
  refine rows_ext (lj _) (uni_len (lj G) (lj H)) fun i a b ha hb => ?_
  have x := uni_getD (lj G) (lj H) i
  rw [List.getD_eq_getElem?_getD, hb] at x
  have y : (joinR F (uniR G H)).getD i [] = a := by rw [List.getD_eq_getElem?_getD, ha]; rfl
  have x : b = asc ((joinR F G).getD i [] ++ (joinR F H).getD i []) := x
  rw [← y, x, join_getD]
  refine asc_uniq (pick_asc _) (pick_asc _) fun k => ?_
  show k ∈ (pick fun k => (F.getD i []).any fun m => ((uniR G H).getD m.toNat []).contains k) ↔ k ∈ asc _
  rw [asc_mem, pick_mem, List.any_eq_true, List.mem_append]
  simp only [List.contains_iff_mem, uni_getD hG hH, asc_mem, List.mem_append, join_mem]
  constructor
  · rintro ⟨h4, m, hm, _, hk | hk⟩
    · exact ⟨h4, .inl ⟨h4, m, hm, hk⟩⟩
    · exact ⟨h4, .inr ⟨h4, m, hm, hk⟩⟩
  · rintro ⟨h4, ⟨_, m, hm, hk⟩ | ⟨_, m, hm, hk⟩⟩
    · exact ⟨h4, m, hm, h4, .inl hk⟩
    · exact ⟨h4, m, hm, h4, .inr hk⟩
end Law

set_option Elab.async false
set_option linter.all false
set_option maxRecDepth 100000
set_option maxHeartbeats 4000000
namespace Law
open PySem PySem.Spec PySem.Calls PyProof.Rows L2 KG LamX
local macro_rules | `(tactic| walk_at "1") => `(tactic| first
  | (with_reducible refine w_var rfl ?_) | (with_reducible refine w_c ?_) | (with_reducible refine w_seq ?_) | (with_reducible refine w_asg ?_) | (with_reducible refine w_gname ?_) | (with_reducible refine w_op ?_) | (with_reducible refine w_un ?_)
  | (with_reducible refine w_add ?_) | (with_reducible refine w_sub ?_) | ((with_reducible refine' w_mod ?mo ?_); (case mo => first | assumption | decide | omega)) | (with_reducible refine w_and ?_) | (with_reducible refine w_or ?_) | (with_reducible refine w_xor ?_)
  | (with_reducible refine w_gt ?_) | (with_reducible refine w_lt ?_) | (with_reducible refine w_ge ?_) | (with_reducible refine w_le ?_) | ((with_reducible refine' w_eq ?sc ?_); (case sc => rfl)) | ((with_reducible refine' w_ne ?sc ?_); (case sc => rfl))
  | (with_reducible refine w_ret ?_) | (with_reducible refine w_next ?_) | (with_reducible refine w_ifs ?_) | (with_reducible refine w_ifx ?_) | (with_reducible refine w_test ?_) | (with_reducible refine w_tB ?_) | (with_reducible refine w_bl ?_)
  | ((with_reducible refine' w_ixL ?ixh ?ixa ?_); (case ixh => first | exact SqL.of (by assumption)); (case ixa => first | rfl | skip)) | ((with_reducible refine' w_ixT ?ixh ?ixa ?_); (case ixh => first | exact SqT.of (by assumption)); (case ixa => first | rfl | skip))
  | ((with_reducible refine' w_fld ?_)) | ((with_reducible refine' fld ?fh ?fc ?fn ?fl ?_); (case fh => assumption); (case fc => assumption); (case fn => assumption); (case fl => rfl)) | (with_reducible refine w_sfld ?_)
  | (with_reducible refine Or.inl ⟨_, rfl, ?_⟩) | (with_reducible refine w_gsub ?_) | (with_reducible refine w_andV ?_) | (with_reducible refine w_orV ?_)
  | (with_reducible refine w_nil ?_) | (with_reducible refine w_cons ?_) | (with_reducible refine w_tup ?_) | (with_reducible refine w_lst ?_) | (with_reducible refine w_and2 ?_) | (with_reducible refine w_or2 ?_) | (with_reducible refine w_not ?_) | (with_reducible refine w_cb ?_) | (with_reducible refine w_call ?_) | (with_reducible refine w_par ?_) | (with_reducible refine w_pnil ?_) | (with_reducible refine w_pcons ?_) | (with_reducible refine w_dput ?_) | (with_reducible refine w_dget ?_) | (with_reducible refine w_for ?_) | (with_reducible refine w_itup ?_) | (with_reducible refine w_ilist ?_) | (with_reducible refine w_irng ?_) | (with_reducible refine w_meth ?_) | (with_reducible refine w_make ?_) | (with_reducible refine w_makeK ?_) | (with_reducible refine w_methK ?_) | ((with_reducible refine' mth ?mh ?ml ?_); (case mh => assumption); (case ml => rfl)) | (with_reducible refine w_drop ?_))
local macro_rules | `(tactic| walk_at "go") => `(tactic| ((repeat (walk_at "1")); try dsimp only))
local macro_rules | `(tactic| walk_at "1") => `(tactic| first
  | (with_reducible refine w_notV ?_) | (with_reducible refine w_callK ?_) | (with_reducible refine w_lc ?_) | (with_reducible refine w_chain ?_) | (with_reducible refine w_neg ?_) | ((with_reducible refine' w_shr ?mo ?_); (case mo => first | assumption | omega)))
def SubR (F G : List (List Int)) : Prop := ∀ l : Nat, ∀ k ∈ F.getD l [], k ∈ G.getD l []
theorem SubR.rfl' (F : List (List Int)) : SubR F F := fun _ _ h => h
theorem join_mono {F F' G G' : List (List Int)} (hF : SubR F F') (hG : SubR G G') : SubR (joinR F G) (joinR F' G') := fun l k hk => by
  obtain ⟨h4, m, hm, hk⟩ := join_mem.mp hk
  exact join_mem.mpr ⟨h4, m, hF l m hm, hG _ k hk⟩
theorem betw_sub0 : ∀ w ∈ WR, ∀ d ∈ DV, ∀ l ∈ List.range 4, ∀ k ∈ (betw true w d).getD l [], k ∈ (betw false w d).getD l [] := by decide +kernel
theorem betw_sub {q : Bool} {w d : Str} (hw : w ∈ WR) (hd : d ∈ DV) : SubR (betw true w d) (betw q w d) := fun l k hk => by
  cases q with
  | true => exact hk
  | false =>
    rcases Nat.lt_or_ge l 4 with lt | ge
    · exact betw_sub0 w hw d hd l (List.mem_range.mpr lt) k hk
    · rw [List.getD_eq_getElem?_getD, List.getElem?_eq_none (by rw [(betw_rw hw hd).len]; exact Nat.le_trans (stN_len w) ge)] at hk
      cases hk
theorem of_sub {q : Bool} {r w d : Str} (kd : Kd r w d) (cs : List Nat) : SubR (ofR true r w d cs) (ofR q r w d cs) := by
  have key : ∀ (cs : List Nat) (F F' : List (List Int)), SubR F F' → SubR (cs.foldl (stepR true r w d) F) (cs.foldl (stepR q r w d) F') := by
    intro cs
    induction cs with
    | nil => exact fun _ _ h => h
    | cons c cs ih =>
      intro F F' h
      rw [List.foldl_cons, List.foldl_cons]
      exact ih _ _ (join_mono (join_mono h (SubR.rfl' _)) (betw_sub kd.2.1 kd.2.2))
  exact key cs _ _ (betw_sub kd.2.1 kd.2.2)
/-- the quiet one is within the one with deeds -/
theorem win_quiet {q : Bool} {r w d : Str} (kd : Kd r w d) (cs : List Nat) (hc : ∀ c ∈ cs, c ∈ ("01r" : Str).cps.toList) : (winL (ofR true r w d cs) (ofR q r w d cs) (stN w)).all id = true := by
  have rA : Rw (stN w).length (ofR true r w d cs) := ofR_rw kd cs hc _ (betw_rw kd.2.1 kd.2.2)
  have rB : Rw (stN w).length (ofR q r w d cs) := ofR_rw kd cs hc _ (betw_rw kd.2.1 kd.2.2)
  refine (win_iff rA rB.len).mpr fun i e g he hg k hk => ?_
  have := of_sub (q := q) kd cs i k (by rw [List.getD_eq_getElem?_getD, he]; exact hk)
  rwa [List.getD_eq_getElem?_getD, hg] at this
theorem of_nil_app {q : Bool} {r w d : Str} (kd : Kd r w d) (ds : List Nat) (hd : ∀ c ∈ ds, c ∈ ("01r" : Str).cps.toList) : joinR (ofR q r w d []) (ofR q r w d ds) = ofR q r w d ds := of_app kd [] ds hd
end Law

set_option Elab.async false
set_option linter.all false
set_option maxRecDepth 100000
set_option maxHeartbeats 4000000
namespace Law
open PySem PySem.Spec PySem.Calls PyProof.Rows L2 KG LamX
local macro_rules | `(tactic| walk_at "1") => `(tactic| first
  | (with_reducible refine w_var rfl ?_) | (with_reducible refine w_c ?_) | (with_reducible refine w_seq ?_) | (with_reducible refine w_asg ?_) | (with_reducible refine w_gname ?_) | (with_reducible refine w_op ?_) | (with_reducible refine w_un ?_)
  | (with_reducible refine w_add ?_) | (with_reducible refine w_sub ?_) | ((with_reducible refine' w_mod ?mo ?_); (case mo => first | assumption | decide | omega)) | (with_reducible refine w_and ?_) | (with_reducible refine w_or ?_) | (with_reducible refine w_xor ?_)
  | (with_reducible refine w_gt ?_) | (with_reducible refine w_lt ?_) | (with_reducible refine w_ge ?_) | (with_reducible refine w_le ?_) | ((with_reducible refine' w_eq ?sc ?_); (case sc => rfl)) | ((with_reducible refine' w_ne ?sc ?_); (case sc => rfl))
  | (with_reducible refine w_ret ?_) | (with_reducible refine w_next ?_) | (with_reducible refine w_ifs ?_) | (with_reducible refine w_ifx ?_) | (with_reducible refine w_test ?_) | (with_reducible refine w_tB ?_) | (with_reducible refine w_bl ?_)
  | ((with_reducible refine' w_ixL ?ixh ?ixa ?_); (case ixh => first | exact SqL.of (by assumption)); (case ixa => first | rfl | skip)) | ((with_reducible refine' w_ixT ?ixh ?ixa ?_); (case ixh => first | exact SqT.of (by assumption)); (case ixa => first | rfl | skip))
  | ((with_reducible refine' w_fld ?_)) | ((with_reducible refine' fld ?fh ?fc ?fn ?fl ?_); (case fh => assumption); (case fc => assumption); (case fn => assumption); (case fl => rfl)) | (with_reducible refine w_sfld ?_)
  | (with_reducible refine Or.inl ⟨_, rfl, ?_⟩) | (with_reducible refine w_gsub ?_) | (with_reducible refine w_andV ?_) | (with_reducible refine w_orV ?_)
  | (with_reducible refine w_nil ?_) | (with_reducible refine w_cons ?_) | (with_reducible refine w_tup ?_) | (with_reducible refine w_lst ?_) | (with_reducible refine w_and2 ?_) | (with_reducible refine w_or2 ?_) | (with_reducible refine w_not ?_) | (with_reducible refine w_cb ?_) | (with_reducible refine w_call ?_) | (with_reducible refine w_par ?_) | (with_reducible refine w_pnil ?_) | (with_reducible refine w_pcons ?_) | (with_reducible refine w_dput ?_) | (with_reducible refine w_dget ?_) | (with_reducible refine w_for ?_) | (with_reducible refine w_itup ?_) | (with_reducible refine w_ilist ?_) | (with_reducible refine w_irng ?_) | (with_reducible refine w_meth ?_) | (with_reducible refine w_make ?_) | (with_reducible refine w_makeK ?_) | (with_reducible refine w_methK ?_) | ((with_reducible refine' mth ?mh ?ml ?_); (case mh => assumption); (case ml => rfl)) | (with_reducible refine w_drop ?_))
local macro_rules | `(tactic| walk_at "go") => `(tactic| ((repeat (walk_at "1")); try dsimp only))
local macro_rules | `(tactic| walk_at "1") => `(tactic| first
  | (with_reducible refine w_notV ?_) | (with_reducible refine w_callK ?_) | (with_reducible refine w_lc ?_) | (with_reducible refine w_chain ?_) | (with_reducible refine w_neg ?_) | ((with_reducible refine' w_shr ?mo ?_); (case mo => first | assumption | omega)))
def tErrV (E : XK) (H : Hp) (c : Addr) (v : V) : Prop := ∀ (dd : Addr) (H' : Hp), Same H H' → H' dd = some (.xd [("value", v)]) → E (.ref c) (some dd) H'
/-- two effects of unlike words -/
def Unl (C CE : Addr) (H : Hp) (e e' k k' : Addr) : Prop := ∃ (r w d r' w' d' : Str) (F F' : List (List Int)), EffAt C CE H e k r w d F ∧ EffAt C CE H e' k' r' w' d' F' ∧ ¬(r = r' ∧ w = w' ∧ d = d')
def spSKX (C CE cK : Addr) : Sp := fun vs H Q E => ∃ (e e' k k' : Addr), vs = [.ref e, .ref e'] ∧ Unl C CE H e e' k k' ∧ tErrV E H cK (.ref k')
section
variable {P : Program} {w : World} {K : PySem.W.Frag} {mg : Str → Option Value} {base : Heap} {C CE aW aI cK fK : Addr} {mc : Value}
theorem ok_skX (D : DefAt K mg "check_same_kind" s_check_same_kind ["a", "b"]) (TE : ET K mg CE) (T : KT K w mg C aW aI mc) {fE : Addr} {fdE : FuncData} (gEK : mg "InvalidKind" = some (.ref cK))
    (TEK : ErrC P K cK fK "InvalidKind.__init__" "value" "value" (defArgs s_InvalidKind___init__) (defBody s_InvalidKind___init__) (defScope s_InvalidKind___init__)) (TXK : ErrX s_InvalidKind___init__ "InvalidKind.__init__" "value" "value")
    (FEQ : Gd P w K mg base CX0 1 fE fdE ["self", "other"] (spEQ C)) (bEQ : Binds K fdE ["self", "other"] []) (eqI : PySem.W.findIn K (.ref C) "__eq__" = some (some (.ref fE))) (eqF : PySem.W.isFn K (.ref fE) = true) (neI : PySem.W.findIn K (.ref C) "__ne__" = some (some (.builtin "object.__ne__"))) (nfC : PySem.W.notFirst K C (.ref C) = true) :
    CalX P w K mg base 3 "check_same_kind" ["a", "b"] (spSKX C CE cK) := by
  refine D.calX (k := 2) sc_check_same_kind (fun vs H Q E h => ?_) (fun f cdv A outer s0 H vs Q E rm gd h => ?_)
  · obtain ⟨e, e', k, k', rfl, _⟩ := h
    rfl
  · obtain ⟨e, e', k, k', rfl, ⟨r, wr, d, r', w', d', F, F', ⟨dx, t, h1, h2, h3⟩, ⟨dx', t', h1', h2', h3'⟩, ne⟩, q⟩ := h
    have cl := TE.cl
    have nK := TE.nK
    have tk := takes_cx (P := P) (w := w) (K := K) (mg := mg) (base := base) (N := ["a", "b"]) (qual := "check_same_kind") (sc := defScope s_check_same_kind) (f := f) (cd := cdv) (A := A) (outer := outer) (s := s0) (H := H) (E := E)
    refine ⟨_, (pss_one (ps_if (pt_cmpR (op_neO FEQ (rm.mono (by decide)) gd eqI eqF neI T.isM bEQ pass0) (pe_fld (pv 0) rfl) (pe_fld (pv 1) rfl) (nomark _))
      (pss_one (ps_raise rfl tk (pmk_errX TEK TXK (k := 0) (rm.mono (by decide)) rfl gEK (pa_cons (pe_fld (pv 1) rfl) pa_nil))))
      pss_nil)), ?_⟩
    obtain ⟨dk, sk, hk1, _⟩ := id h2
    walk_at "go"
    refine ⟨k, dk, _, .ref C, rfl, hk1, ty_kind T h2', nfC, k, k', r, wr, d, r', w', d', rfl, h2, h2', _, rfl, _, rfl, ?_⟩
    refine iteYs ?_ ?_
    · have : (decide (r = r') && decide (wr = w') && decide (d = d')) = false := by
        by_cases a : r = r' <;> by_cases b : wr = w' <;> by_cases c : d = d' <;> simp_all
      rw [if_pos rfl, this]
      rfl
    · refine w_cons (w_fld (w_var rfl ⟨e', CE, dx', _, .ref k', rfl, h1', cl, nK, rfl, w_nil ⟨.ref k', rfl, fun dd H6 nd hd keep => q dd H6 (fun b o z => ?_) hd⟩⟩))
      exact (keep b (ne_of_none z nd)).trans z
end
end Law

set_option Elab.async false
set_option linter.all false
set_option maxRecDepth 100000
set_option maxHeartbeats 4000000
namespace Law
open PySem PySem.Spec PySem.Calls PyProof.Rows L2 KG LamX
local macro_rules | `(tactic| walk_at "1") => `(tactic| first
  | (with_reducible refine w_var rfl ?_) | (with_reducible refine w_c ?_) | (with_reducible refine w_seq ?_) | (with_reducible refine w_asg ?_) | (with_reducible refine w_gname ?_) | (with_reducible refine w_op ?_) | (with_reducible refine w_un ?_)
  | (with_reducible refine w_add ?_) | (with_reducible refine w_sub ?_) | ((with_reducible refine' w_mod ?mo ?_); (case mo => first | assumption | decide | omega)) | (with_reducible refine w_and ?_) | (with_reducible refine w_or ?_) | (with_reducible refine w_xor ?_)
  | (with_reducible refine w_gt ?_) | (with_reducible refine w_lt ?_) | (with_reducible refine w_ge ?_) | (with_reducible refine w_le ?_) | ((with_reducible refine' w_eq ?sc ?_); (case sc => rfl)) | ((with_reducible refine' w_ne ?sc ?_); (case sc => rfl))
  | (with_reducible refine w_ret ?_) | (with_reducible refine w_next ?_) | (with_reducible refine w_ifs ?_) | (with_reducible refine w_ifx ?_) | (with_reducible refine w_test ?_) | (with_reducible refine w_tB ?_) | (with_reducible refine w_bl ?_)
  | ((with_reducible refine' w_ixL ?ixh ?ixa ?_); (case ixh => first | exact SqL.of (by assumption)); (case ixa => first | rfl | skip)) | ((with_reducible refine' w_ixT ?ixh ?ixa ?_); (case ixh => first | exact SqT.of (by assumption)); (case ixa => first | rfl | skip))
  | ((with_reducible refine' w_fld ?_)) | ((with_reducible refine' fld ?fh ?fc ?fn ?fl ?_); (case fh => assumption); (case fc => assumption); (case fn => assumption); (case fl => rfl)) | (with_reducible refine w_sfld ?_)
  | (with_reducible refine Or.inl ⟨_, rfl, ?_⟩) | (with_reducible refine w_gsub ?_) | (with_reducible refine w_andV ?_) | (with_reducible refine w_orV ?_)
  | (with_reducible refine w_nil ?_) | (with_reducible refine w_cons ?_) | (with_reducible refine w_tup ?_) | (with_reducible refine w_lst ?_) | (with_reducible refine w_and2 ?_) | (with_reducible refine w_or2 ?_) | (with_reducible refine w_not ?_) | (with_reducible refine w_cb ?_) | (with_reducible refine w_call ?_) | (with_reducible refine w_par ?_) | (with_reducible refine w_pnil ?_) | (with_reducible refine w_pcons ?_) | (with_reducible refine w_dput ?_) | (with_reducible refine w_dget ?_) | (with_reducible refine w_for ?_) | (with_reducible refine w_itup ?_) | (with_reducible refine w_ilist ?_) | (with_reducible refine w_irng ?_) | (with_reducible refine w_meth ?_) | (with_reducible refine w_make ?_) | (with_reducible refine w_makeK ?_) | (with_reducible refine w_methK ?_) | ((with_reducible refine' mth ?mh ?ml ?_); (case mh => assumption); (case ml => rfl)) | (with_reducible refine w_drop ?_))
local macro_rules | `(tactic| walk_at "go") => `(tactic| ((repeat (walk_at "1")); try dsimp only))
local macro_rules | `(tactic| walk_at "1") => `(tactic| first
  | (with_reducible refine w_notV ?_) | (with_reducible refine w_callK ?_) | (with_reducible refine w_lc ?_) | (with_reducible refine w_chain ?_) | (with_reducible refine w_neg ?_) | ((with_reducible refine' w_shr ?mo ?_); (case mo => first | assumption | omega)))
section
variable {P : Program} {w : World} {K : PySem.W.Frag} {mg : Str → Option Value} {base : Heap} {C CE aW aI cK : Addr} {mc : Value}
theorem ok_mulX {f fT : Addr} {fdT : FuncData} (D : MetAt K CE "__mul__" "Effect.__mul__" s_Effect___mul__ ["self", "other"] f) (TE : ET K mg CE) (T : KT K w mg C aW aI mc) (gAll : mg "all" = none) (cskX : CalX P w K mg base 3 "check_same_kind" ["a", "b"] (spSKX C CE cK)) (cjoined : Cal P w K mg base 1 "joined" spJoin) (ceither : Cal P w K mg base 1 "either" spEither)
    (ME : Mk K CE fT) (FEI : Gd P w K mg base CX0 1 fT fdT ["self", "kind", "ends"] (spEI CE)) (bEI : Binds K fdT ["self", "kind", "ends"] []) :
    ∃ fd, Meth K CE "__mul__" f ∧ Fun K "__mul__" "Effect.__mul__" s_Effect___mul__ f fd ∧ Binds K fd ["self", "other"] [] ∧ Gd P w K mg base (L2.CX P w) 4 f fd ["self", "other"] (spSKX C CE cK) := by
  refine D.gdx (k := 3) sc_Effect___mul__ (fun vs H Q E h => ?_) (fun cdv A outer s H vs Q E rm gd h => ?_)
  · obtain ⟨e, e', k, k', rfl, _⟩ := h
    rfl
  · obtain ⟨e, e', k, k', rfl, un, q⟩ := h
    refine ⟨_, (pss_cons (ps_expr (pcX cskX pass_cx rm (by decide) gd rfl (pa_cons (pv 0) (pa_cons (pv 1) pa_nil))))
    (pss_one (ps_ret (pe_gmake ME FEI (rm.mono (by decide)) gd rfl TE.g_Effect bEI .nil (E := E0) pass0 (pa_cons (pe_fld (pv 0) rfl) (pa_cons (pc cjoined rm (by decide) gd rfl (pa_cons (pe_fld (pv 0) rfl) (pa_cons (pe_fld (pv 1) rfl) pa_nil))) pa_nil)))))), ?_⟩
    walk_at "go"
    exact ⟨e, e', k, k', rfl, un, q⟩
theorem ok_orX {f fT : Addr} {fdT : FuncData} (D : MetAt K CE "__or__" "Effect.__or__" s_Effect___or__ ["self", "other"] f) (TE : ET K mg CE) (T : KT K w mg C aW aI mc) (gAll : mg "all" = none) (cskX : CalX P w K mg base 3 "check_same_kind" ["a", "b"] (spSKX C CE cK)) (cjoined : Cal P w K mg base 1 "joined" spJoin) (ceither : Cal P w K mg base 1 "either" spEither)
    (ME : Mk K CE fT) (FEI : Gd P w K mg base CX0 1 fT fdT ["self", "kind", "ends"] (spEI CE)) (bEI : Binds K fdT ["self", "kind", "ends"] []) :
    ∃ fd, Meth K CE "__or__" f ∧ Fun K "__or__" "Effect.__or__" s_Effect___or__ f fd ∧ Binds K fd ["self", "other"] [] ∧ Gd P w K mg base (L2.CX P w) 4 f fd ["self", "other"] (spSKX C CE cK) := by
  refine D.gdx (k := 3) sc_Effect___or__ (fun vs H Q E h => ?_) (fun cdv A outer s H vs Q E rm gd h => ?_)
  · obtain ⟨e, e', k, k', rfl, _⟩ := h
    rfl
  · obtain ⟨e, e', k, k', rfl, un, q⟩ := h
    refine ⟨_, (pss_cons (ps_expr (pcX cskX pass_cx rm (by decide) gd rfl (pa_cons (pv 0) (pa_cons (pv 1) pa_nil))))
    (pss_one (ps_ret (pe_gmake ME FEI (rm.mono (by decide)) gd rfl TE.g_Effect bEI .nil (E := E0) pass0 (pa_cons (pe_fld (pv 0) rfl) (pa_cons (pc ceither rm (by decide) gd rfl (pa_cons (pe_fld (pv 0) rfl) (pa_cons (pe_fld (pv 1) rfl) pa_nil))) pa_nil)))))), ?_⟩
    walk_at "go"
    exact ⟨e, e', k, k', rfl, un, q⟩
theorem ok_winX {f fT : Addr} {fdT : FuncData} (D : MetAt K CE "within" "Effect.within" s_Effect_within ["self", "b"] f) (TE : ET K mg CE) (T : KT K w mg C aW aI mc) (gAll : mg "all" = none) (cskX : CalX P w K mg base 3 "check_same_kind" ["a", "b"] (spSKX C CE cK)) (cjoined : Cal P w K mg base 1 "joined" spJoin) (ceither : Cal P w K mg base 1 "either" spEither)
    (ME : Mk K CE fT) (FEI : Gd P w K mg base CX0 1 fT fdT ["self", "kind", "ends"] (spEI CE)) (bEI : Binds K fdT ["self", "kind", "ends"] []) :
    ∃ fd, Meth K CE "within" f ∧ Fun K "within" "Effect.within" s_Effect_within f fd ∧ Binds K fd ["self", "b"] [] ∧ Gd P w K mg base (L2.CX P w) 4 f fd ["self", "b"] (spSKX C CE cK) := by
  refine D.gdx (k := 3) sc_Effect_within (fun vs H Q E h => ?_) (fun cdv A outer s H vs Q E rm gd h => ?_)
  · obtain ⟨e, e', k, k', rfl, _⟩ := h
    rfl
  · obtain ⟨e, e', k, k', rfl, un, q⟩ := h
    refine ⟨_, (pss_cons (ps_expr (pcX cskX pass_cx rm (by decide) gd rfl (pa_cons (pv 0) (pa_cons (pv 1) pa_nil))))
    (pss_one (ps_ret (show PE _ _ (tCB (rAll K) (tCons (KG.tLc2 (iTup K (tFld K (tFld K (tVar 0) "kind") "states")) (gName 2) tYes (iTup K (tOp (rIxT K) (tFld K (tVar 0) "ends") (tVar 2))) (gName 3) tYes (tOp (rIn K false) (tVar 3) (tOp (rIxT K) (tFld K (tVar 1) "ends") (tVar 2))) [2, 3] [3]) tNil)) from pe_callB (id := "all") (r := rAll K) (cr_all (by rfl)) (by rfl) gAll (by decide +kernel) (pa_cons (KG.pe_lc2 (own := [("state", 2), ("end", 3)]) (vs1 := [3]) (wi := iTup K (tFld K (tFld K (tVar 0) "kind") "states")) (g := gName 2) (tt := tYes) (wi1 := iTup K (tOp (rIxT K) (tFld K (tVar 0) "ends") (tVar 2))) (g1 := gName 3) (tt1 := tYes) (te := tOp (rIn K false) (tVar 3) (tOp (rIxT K) (tFld K (tVar 1) "ends") (tVar 2))) (by rfl) sc_Effect_within.nd (pi_tup (pe_fld (pe_fld (pv 0) rfl) rfl)) (blkOk_by (N := ["self", "b", "state", "end"]) (sc := defScope s_Effect_within) (by decide +kernel)) (by decide) (fun _ _ _ _ _ => (pg_name (i := 2) sc_Effect_within.nd rfl (Or.inl rfl))) (fun _ _ _ _ _ => pts_nil) (fun _ _ _ _ _ => pi_tup (pe_ix (r := rIxT K) ix_tup (pe_fld (pv 0) rfl) (pv 2) (fun _ _ => rfl))) (fun _ _ _ _ _ => (pg_name (i := 3) sc_Effect_within.nd rfl (Or.inl rfl))) (fun _ _ _ _ _ => pts_nil) (fun _ _ _ _ _ => (pe_cmpR (r := rIn K false) op_in_seq (pv 3) (pe_ix (r := rIxT K) ix_tup (pe_fld (pv 1) rfl) (pv 2) (fun _ _ => rfl)) rfl))) pa_nil))))), ?_⟩
    walk_at "go"
    exact ⟨e, e', k, k', rfl, un, q⟩
theorem ok_parX (D : DefAt K mg "effect_parting" s_effect_parting ["a", "b"]) (cskX : CalX P w K mg base 3 "check_same_kind" ["a", "b"] (spSKX C CE cK)) : CalX P w K mg base 4 "effect_parting" ["a", "b"] (spSKX C CE cK) := by
  refine D.calX (k := 3) sc_effect_parting (fun vs H Q E h => ?_) (fun f cdv A outer s0 H vs Q E rm gd h => ?_)
  · obtain ⟨e, e', k, k', rfl, _⟩ := h
    rfl
  · obtain ⟨e, e', k, k', rfl, un, q⟩ := h
    refine ⟨_, (pss_cons (ps_expr (pcX cskX pass_cx rm (by decide) gd rfl (pa_cons (pv 0) (pa_cons (pv 1) pa_nil))))
    (pss_cons (ps_for own_cx rfl (pi_tup (pe_fld (pe_fld (pv 0) rfl) rfl)) (pg_name (i := 2) sc_effect_parting.nd rfl (Or.inl rfl))
      (pss_one (ps_for own_cx rfl (pi_tup (pe_fld (pe_fld (pv 0) rfl) rfl)) (pg_name (i := 3) sc_effect_parting.nd rfl (Or.inl rfl))
        (pss_one (ps_if (pt_cmpR op_ne (pe_cmpR op_in_seq (pv 3) (pe_ix ix_tup (pe_fld (pv 0) rfl) (pv 2) (fun _ _ => rfl)) rfl) (pe_cmpR op_in_seq (pv 3) (pe_ix ix_tup (pe_fld (pv 1) rfl) (pv 2) (fun _ _ => rfl)) rfl) (nomark _))
          (pss_one (ps_ret (pe_tup (pa_cons (pv 2) (pa_cons (pv 3) pa_nil)))))
          pss_nil)))))
    (pss_one (ps_ret pe_non)))), ?_⟩
    walk_at "go"
    exact ⟨e, e', k, k', rfl, un, q⟩
end
end Law

set_option Elab.async false
set_option linter.all false
set_option maxRecDepth 100000
set_option maxHeartbeats 4000000
namespace Law
open PySem PySem.Spec PySem.Calls PyProof.Rows L2 KG LamX
local macro_rules | `(tactic| walk_at "1") => `(tactic| first
  | (with_reducible refine w_var rfl ?_) | (with_reducible refine w_c ?_) | (with_reducible refine w_seq ?_) | (with_reducible refine w_asg ?_) | (with_reducible refine w_gname ?_) | (with_reducible refine w_op ?_) | (with_reducible refine w_un ?_)
  | (with_reducible refine w_add ?_) | (with_reducible refine w_sub ?_) | ((with_reducible refine' w_mod ?mo ?_); (case mo => first | assumption | decide | omega)) | (with_reducible refine w_and ?_) | (with_reducible refine w_or ?_) | (with_reducible refine w_xor ?_)
  | (with_reducible refine w_gt ?_) | (with_reducible refine w_lt ?_) | (with_reducible refine w_ge ?_) | (with_reducible refine w_le ?_) | ((with_reducible refine' w_eq ?sc ?_); (case sc => rfl)) | ((with_reducible refine' w_ne ?sc ?_); (case sc => rfl))
  | (with_reducible refine w_ret ?_) | (with_reducible refine w_next ?_) | (with_reducible refine w_ifs ?_) | (with_reducible refine w_ifx ?_) | (with_reducible refine w_test ?_) | (with_reducible refine w_tB ?_) | (with_reducible refine w_bl ?_)
  | ((with_reducible refine' w_ixL ?ixh ?ixa ?_); (case ixh => first | exact SqL.of (by assumption)); (case ixa => first | rfl | skip)) | ((with_reducible refine' w_ixT ?ixh ?ixa ?_); (case ixh => first | exact SqT.of (by assumption)); (case ixa => first | rfl | skip))
  | ((with_reducible refine' w_fld ?_)) | ((with_reducible refine' fld ?fh ?fc ?fn ?fl ?_); (case fh => assumption); (case fc => assumption); (case fn => assumption); (case fl => rfl)) | (with_reducible refine w_sfld ?_)
  | (with_reducible refine Or.inl ⟨_, rfl, ?_⟩) | (with_reducible refine w_gsub ?_) | (with_reducible refine w_andV ?_) | (with_reducible refine w_orV ?_)
  | (with_reducible refine w_nil ?_) | (with_reducible refine w_cons ?_) | (with_reducible refine w_tup ?_) | (with_reducible refine w_lst ?_) | (with_reducible refine w_and2 ?_) | (with_reducible refine w_or2 ?_) | (with_reducible refine w_not ?_) | (with_reducible refine w_cb ?_) | (with_reducible refine w_call ?_) | (with_reducible refine w_par ?_) | (with_reducible refine w_pnil ?_) | (with_reducible refine w_pcons ?_) | (with_reducible refine w_dput ?_) | (with_reducible refine w_dget ?_) | (with_reducible refine w_for ?_) | (with_reducible refine w_itup ?_) | (with_reducible refine w_ilist ?_) | (with_reducible refine w_irng ?_) | (with_reducible refine w_meth ?_) | (with_reducible refine w_make ?_) | (with_reducible refine w_makeK ?_) | (with_reducible refine w_methK ?_) | ((with_reducible refine' mth ?mh ?ml ?_); (case mh => assumption); (case ml => rfl)) | (with_reducible refine w_drop ?_))
local macro_rules | `(tactic| walk_at "go") => `(tactic| ((repeat (walk_at "1")); try dsimp only))
local macro_rules | `(tactic| walk_at "1") => `(tactic| first
  | (with_reducible refine w_notV ?_) | (with_reducible refine w_callK ?_) | (with_reducible refine w_lc ?_) | (with_reducible refine w_chain ?_) | (with_reducible refine w_neg ?_) | ((with_reducible refine' w_shr ?mo ?_); (case mo => first | assumption | omega)))
/-! ### heard: what an asked call returns, or its error -/
/-- the six names -/
def ceN : Nat → Str
  | 0 => "InvalidWidth"
  | 1 => "InvalidLane"
  | 2 => "InvalidWord"
  | 3 => "InvalidShift"
  | 4 => "InvalidKind"
  | _ => "InvalidLetters"
/-- .. and what heard calls them -/
def ceT : Nat → Str
  | 0 => "width"
  | 1 => "lane"
  | 2 => "word"
  | 3 => "shift"
  | _ => "kind"
/-- what the text knows of the errors: BE the base, ce i the class of the name i -/
structure Er (K : PySem.W.Frag) (mg : Str → Option Value) (BE : Addr) (ce : Nat → Addr) : Prop where
  g_BitError : mg "BitError" = some (.ref BE)
  g_ValueError : mg "ValueError" = none
  g_isinstance : mg "isinstance" = none
  g_repr : mg "repr" = none
  g_ce : ∀ i, i < 6 → mg (ceN i) = some (.ref (ce i))
  exm : ∀ i, i < 5 → PySem.W.exmOne K (.ref (ce i)) (.ref BE) = some true
  ec : ∀ i, i < 5 → ExcC K (ce i)
  xf : ∀ i, i < 5 → XfC K (ce i)
  nv : ∀ i, i < 5 → PySem.W.findIn K (.ref (ce i)) "value" = some none
  kit : ∀ i j, i < 5 → j < 6 → PySem.W.kitOne K (.ref (ce i)) (.ref (ce j)) = some (decide (i = j))
  ve : ∀ i, i < 5 → PySem.W.kitOne K (.ref (ce i)) (.type "ValueError") = some true
/-- the body of the try -/
def tAct (f c' : Addr) (q : Str) (tl : XK → Hp → VK → Prop) (W : WX) : TE := fun σ H Q => σ[0]? = some (some (.ref f)) ∧ H c' = some (CodeO c' q) ∧ ∃ E : XK, (∀ cls d H', E cls d H' → W cls d σ H') ∧ tl E H Q
def tbH (f c' : Addr) (q : Str) (tl : XK → Hp → VK → Prop) : WX → TS := fun W => tRet (tCB rReprA (tCons (tLst (tCons (tC (.str "told")) (tCons (tAct f c' q tl W) tNil))) tNil))
/-- heard, of the lambda's reading: it raises an InvalidKind whose value is a kind -/
def kTx (r w d : Str) : Str := Str.empty ++ r ++ " " ++ w ++ " " ++ d
theorem kTx_ok : ∀ r ∈ RD, ∀ w ∈ WR, ∀ d ∈ DV, (PyData.list [.str "kind", .str (kTx r w d)]).showable = true ∧ (PyData.list [.str "kind", .str (kTx r w d)]).depth ≤ 40 ∧ (PyData.list [.str "kind", .str (kTx r w d)]).shown.length ≤ 1000 ∧ (PyData.list [.str "kind", .str (kTx r w d)]).hasDict = false := by decide +kernel
def HErrK (C : Addr) (ce : Nat → Addr) (Q : VK) : XK := fun cls d H => ∃ (dd k : Addr) (r w dv : Str), cls = .ref (ce 4) ∧ d = some dd ∧ H dd = some (.xd [("value", .ref k)]) ∧ KindAt C H k r w dv ∧ r ∈ RD ∧ w ∈ WR ∧ dv ∈ DV ∧ ∀ H2, Same H H2 → Q (.str (PyData.list [.str "kind", .str (kTx r w dv)]).shown) H2
def THeardK (C : Addr) (ce : Nat → Addr) : (XK → Hp → VK → Prop) → Hp → VK → Prop := fun tl H Q => ∀ (E' : XK) (Q' : VK), (∀ cls d H', HErrK C ce Q cls d H' → E' cls d H') → tl E' H Q'
/-- the marks of an error of the class i -/
def marksL (i : Nat) : List V := [.bl (decide (i = 0)), .bl (decide (i = 1)), .bl (decide (i = 2)), .bl (decide (i = 3)), .bl (decide (i = 4)), .bl (decide (i = 5))]
theorem marks_count : ∀ i, i < 5 → ((marksL i).countP fun z => eqV z (.bl true)) = 1 := by decide
theorem marks_at : ∀ i, i < 5 → (marksL i)[i]? = some (.bl true) := by decide
theorem marks_no : ∀ i, i < 5 → ∀ m, m < i → (marksL i)[m]? = some (.bl false) := by decide
theorem marks_5 : ∀ i, i < 5 → atI (marksL i) 5 = some (.bl false) := by decide
theorem names_at : ∀ i : Nat, i < 5 → atI [.str "width", .str "lane", .str "word", .str "shift", .str "kind"] (i : Int) = some (V.str (ceT i)) := by decide
theorem heard_gives {X : Cx} {BE C fST : Addr} {fdST : FuncData} {ce : Nat → Addr} {k : Nat} (hk : 3 ≤ k) (gStr : X.mg "str" = none) (FST : Gd X.prog X.w X.K X.mg X.base CX0 1 fST fdST ["self"] (spST C)) (stI : PySem.W.findIn X.K (.ref C) "__str__" = some (some (.ref fST))) (stF : PySem.W.isFn X.K (.ref fST) = true) (bST : Binds X.K fdST ["self"] []) (B : Er X.K X.mg BE ce) (rm2 : Room (k + 1) X.A) (gd2 : X.A.guards = some []) : Gives X "_law_heard" s__law_heard "_law_ask" (THeardK C ce) := by
  refine ⟨_, sc__law_heard, rfl, .inl (by decide +kernel), fun g cd f c' s H Q tl act hc h => ?_⟩
  have rm : Room k (inDef X ["_law_ask", "_law_caught", "error", "_law_marks"] "_law_heard" s__law_heard g cd s H).A := rm2.deeper _
  have gd : (inDef X ["_law_ask", "_law_caught", "error", "_law_marks"] "_law_heard" s__law_heard g cd s H).A.guards = some [] := gd2
  refine ⟨_, (pss_cons (ps_set (i := 1) sc__law_heard.nd rfl (Or.inl rfl) pe_non)
    (pss_cons (ps_try_keep (tb := tbH f c' (X.env.qual ++ "<lambda>") tl) (ts := fun a cls d => tAsg (tVar 2) (fun v σ H QS => gName 1 v σ H QS)) rfl rfl rfl sc__law_heard.nd (i := 2) rfl rfl ⟨rfl, by decide, .inl B.g_BitError⟩ L2.takes0 ?hb ?hsu)
    (pss_cons (ps_set (i := 3) sc__law_heard.nd rfl (Or.inl rfl) (pe_lst (pa_cons (pe_callB call_isErr (by rfl) B.g_isinstance (by decide +kernel) (pa_cons (pv 1) (pa_cons (pe_glob (v := .ref (ce 0)) rfl (B.g_ce 0 (by decide)) rfl) pa_nil))) (pa_cons (pe_callB call_isErr (by rfl) B.g_isinstance (by decide +kernel) (pa_cons (pv 1) (pa_cons (pe_glob (v := .ref (ce 1)) rfl (B.g_ce 1 (by decide)) rfl) pa_nil))) (pa_cons (pe_callB call_isErr (by rfl) B.g_isinstance (by decide +kernel) (pa_cons (pv 1) (pa_cons (pe_glob (v := .ref (ce 2)) rfl (B.g_ce 2 (by decide)) rfl) pa_nil))) pa_nil)))))
    (pss_cons (ps_set (i := 3) sc__law_heard.nd rfl (Or.inl rfl) (pe_op op_cat (pv 3) (pe_lst (pa_cons (pe_callB call_isErr (by rfl) B.g_isinstance (by decide +kernel) (pa_cons (pv 1) (pa_cons (pe_glob (v := .ref (ce 3)) rfl (B.g_ce 3 (by decide)) rfl) pa_nil))) (pa_cons (pe_callB call_isErr (by rfl) B.g_isinstance (by decide +kernel) (pa_cons (pv 1) (pa_cons (pe_glob (v := .ref (ce 4)) rfl (B.g_ce 4 (by decide)) rfl) pa_nil))) pa_nil)))))
    (pss_cons (ps_expr (pe_bm PySem.F.plainAttrs_list PySem.F.slot_list_append PySem.F.type_list_append mt_append (pv 3) (pa_cons (pe_callB call_isErr (by rfl) B.g_isinstance (by decide +kernel) (pa_cons (pv 1) (pa_cons (pe_glob (v := .ref (ce 5)) rfl (B.g_ce 5 (by decide)) rfl) pa_nil))) pa_nil)))
    (pss_mid (ps_if (PW.pt (pw_or (pt_cmpR op_ne (pe_bm PySem.F.plainAttrs_list PySem.F.slot_list_count PySem.F.type_list_count mt_countF (pv 3) (pa_cons pe_bl pa_nil)) pe_int (nomark _)) (pw_or1 (pt_not (pt_val (pe_callB call_isErr (by rfl) B.g_isinstance (by decide +kernel) (pa_cons (pv 1) (pa_cons (pe_bltn (v := .ty "ValueError") rfl B.g_ValueError (by decide +kernel) rfl) pa_nil))))))))
      (pss_one (ps_ret pe_str))
      pss_nil)
    (pss_cons (ps_if (pt_val (pe_ix ix_list (pv 3) pe_int (fun _ _ => rfl)))
      (pss_one (ps_ret (pe_callB (call_reprA rm gd) (by rfl) B.g_repr (by decide +kernel) (pa_cons (pe_lst (pa_cons pe_str (pa_cons (pe_errf (pv 1)) pa_nil))) pa_nil))))
      pss_nil)
    (pss_one (ps_ret (pe_callB (call_reprA rm gd) (by rfl) B.g_repr (by decide +kernel) (pa_cons (pe_lstB (pa_cons (pe_ix ix_list (pe_lst (pa_cons pe_str (pa_cons pe_str (pa_cons pe_str (pa_cons pe_str (pa_cons pe_str pa_nil)))))) (pe_bm PySem.F.plainAttrs_list PySem.F.slot_list_index PySem.F.type_list_index mt_index (pv 3) (pa_cons pe_bl pa_nil)) (fun _ _ => rfl)) (pa_cons (pe_callTy (T := "str") (r := rStrO C (spST C) E0) (call_strO FST (rm.mono hk) gd stI stF bST pass0) (by rfl) gStr (by decide +kernel) (pa_cons (pe_errf (pv 1)) pa_nil)) pa_nil))) pa_nil))))))))))), ?_⟩
  case hb =>
    intro W pn xe tk _
    exact pss_one (ps_ret (pe_callB (call_reprA (k := k) rm gd) (by rfl) B.g_repr (by decide +kernel) (pa_cons (pe_lst (pa_cons pe_str (pa_cons (act W pn xe _ _ tk) pa_nil))) pa_nil)))
  case hsu =>
    intro a oe cls d pn _ _
    exact pss_one (ps_set (i := 1) sc__law_heard.nd rfl (Or.inl rfl) (pv 2))
  walk_at "go"
  show tbH _ _ _ _ _ _ _ _
  unfold tbH
  walk_at "go"
  refine ⟨rfl, hc, _, fun _ _ _ z => z, h _ _ (fun cls d H1 hE => ?_)⟩
  · obtain ⟨dd, kk, r, wr, dv, rfl, rfl, hdd, hkk, hr, hw, hd, q⟩ := hE
    have hi : 4 < 5 := by decide
    obtain ⟨sh, dp, sz, nd⟩ := kTx_ok r hr wr hw dv hd
    refine ⟨true, B.exm 4 (by omega), fun _ a na => ?_, fun z => by cases z⟩
    walk_at "go"
    have hi6 : 4 < 6 := by omega
    have l2 : 2 ≤ sizeLine := by decide
    have l3 : 3 ≤ sizeLine := by decide
    have l5 : 5 ≤ sizeLine := by decide
    have lt5 : 5 < sizeLine := by decide
    have da : dd ≠ a := ne_of_none hdd na
    have ea : upd H1 a (ErrO (.ref (ce 4)) (some dd) a) a = some (ErrO (.ref (ce 4)) (some dd) a) := upd_same
    have ed : upd H1 a (ErrO (.ref (ce 4)) (some dd) a) dd = some (.xd [("value", .ref kk)]) := (upd_ne da).trans hdd
    have sm : Same H1 (upd H1 a (ErrO (.ref (ce 4)) (some dd) a)) := fun b o z => (upd_ne (ne_of_none z na)).trans z
    generalize upd H1 a (ErrO (.ref (ce 4)) (some dd) a) = H2 at ea ed sm
    refine w_isE ea ed (B.ec 4 hi) (fun u r => r) (B.kit 4 0 hi (by decide)) ?_
    walk_at "go"
    refine w_isE ea ed (B.ec 4 hi) (fun u r => r) (B.kit 4 1 hi (by decide)) ?_
    walk_at "go"
    refine w_isE ea ed (B.ec 4 hi) (fun u r => r) (B.kit 4 2 hi (by decide)) ?_
    walk_at "go"
    refine new l3 fun p1 H3 n1 h1 s1 => ?_
    walk_at "go"
    refine w_isE (s1 _ _ ea) (s1 _ _ ed) (B.ec 4 hi) (fun u r => r) (B.kit 4 3 hi (by decide)) ?_
    walk_at "go"
    refine w_isE (s1 _ _ ea) (s1 _ _ ed) (B.ec 4 hi) (fun u r => r) (B.kit 4 4 hi (by decide)) ?_
    walk_at "go"
    refine new l2 fun p2 H4 n2 h2 s2 => ?_
    walk_at "go"
    refine w_cat (s2 _ _ h1) h2 rfl l5 fun p3 H5 n3 h3 s3 => ?_
    walk_at "go"
    have sm5 : Same H2 H5 := fun b o z => s3 b o (s2 b o (s1 b o z))
    have ea5 := sm5 _ _ ea
    have ed5 := sm5 _ _ ed
    have sm15 : Same H1 H5 := fun b o z => sm5 b o (sm b o z)
    have np3 : ∀ b o, H2 b = some o → b ≠ p3 := fun b o z => ne_of_none (s2 b o (s1 b o z)) n3
    refine w_bm ?_
    walk_at "go"
    refine ⟨ty_list h3, ?_⟩
    walk_at "go"
    refine w_isE ea5 ed5 (B.ec 4 hi) (fun u r => r) (B.kit 4 5 hi (by decide)) ?_
    walk_at "go"
    refine w_app (ys := marksL 4) h3 lt5 rfl fun H6 h6 e6 => ?_
    have ea6 : H6 a = _ := (e6 a (np3 _ _ ea)).trans ea5
    have ed6 : H6 dd = _ := (e6 dd (np3 _ _ ed)).trans ed5
    have sm6 : Same H1 H6 := fun b o z => (e6 b (np3 _ _ (sm b o z))).trans (sm15 b o z)
    clear e6 h3 n3 s3 sm15 sm5 ea5 ed5 np3 h2 s2 n2 h1 s1 n1
    walk_at "go"
    refine w_mid (fun σ' H' => σ'[1]? = some (some (.ref a)) ∧ σ'[3]? = some (some (.ref p3)) ∧ H' = H6) ?_ fun σ' H' ⟨g1, g3, e⟩ => ?_
    · have cnt := marks_count 4 hi
      walk_at "go"
      refine w_bm ?_
      walk_at "go"
      refine ⟨ty_list h6, ?_⟩
      walk_at "go"
      refine w_count h6 rfl rfl cnt ?_
      walk_at "go"
      rw [if_neg (show ¬ ((!decide (V.int ((1 : Nat) : Int) = V.int 1)) = true) by decide)]
      walk_at "go"
      refine w_isE (c := .ty "ValueError") ea6 ed6 (B.ec 4 hi) (fun u r => r) (B.ve 4 hi) ?_
      walk_at "go"
      rw [if_neg (show ¬ ((!true) = true) by decide)]
      exact ⟨rfl, rfl, rfl⟩
    · subst e
      walk_at "go"
      refine w_var g3 ?_
      walk_at "go"
      have n5 : ¬ (decide (4 = 5) = true) := by
        rw [decide_eq_true_eq]
        omega
      rw [if_neg n5]
      walk_at "go"
      refine w_lstB ?_
      walk_at "go"
      refine new l5 fun p4 H7 n4 h4 s4 => ?_
      walk_at "go"
      refine w_bm ?_
      refine w_var g3 ?_
      refine ⟨ty_list (s4 _ _ h6), ?_⟩
      walk_at "go"
      refine ⟨p3, _, .bl true, 4, .bl true, rfl, rfl, SqL.of (s4 _ _ h6), rfl, rfl, marks_at 4 hi, rfl, fun m z' hm hz => ?_, ?_⟩
      · rw [marks_no 4 hi m hm] at hz
        cases hz
        rfl
      refine w_ixL (SqL.of h4) (names_at 4 hi) ?_
      walk_at "go"
      refine w_errf ?_
      refine w_var g1 ?_
      refine ⟨a, ce 4, dd, _, .ref kk, rfl, s4 _ _ ea6, s4 _ _ ed6, B.xf 4 hi, B.nv 4 hi, rfl, ?_⟩
      walk_at "go"
      have hk7 := hkk.sm (sm6.trans s4)
      obtain ⟨dk, sk, hk1, hk2⟩ := id hk7
      refine ⟨kk, dk, _, rfl, hk1, kk, r, wr, dv, rfl, hk7, hr, hw, hd, _, rfl, ?_⟩
      walk_at "go"
      refine newB l2 fun p5 H8 n5 m5 h5 s5 => ?_
      walk_at "go"
      have s8 : Same H1 H8 := fun b o z => s5 b o (s4 b o (sm6 b o z))
      exact ⟨.ref p5, .list [.str "kind", .str (kTx r wr dv)], rfl, Da.lst h5 (.cons (.str _) (.cons (.str _) .nil)), fun z => (by rw [nd] at z; cases z), sh, dp, Nat.le_trans sz (by decide), q _ s8⟩
end Law

set_option Elab.async false
set_option linter.all false
set_option maxRecDepth 100000
set_option maxHeartbeats 4000000
namespace Law
open PySem PySem.Spec PySem.Calls PyProof.Rows L2 KG LamX
local macro_rules | `(tactic| walk_at "1") => `(tactic| first
  | (with_reducible refine w_var rfl ?_) | (with_reducible refine w_c ?_) | (with_reducible refine w_seq ?_) | (with_reducible refine w_asg ?_) | (with_reducible refine w_gname ?_) | (with_reducible refine w_op ?_) | (with_reducible refine w_un ?_)
  | (with_reducible refine w_add ?_) | (with_reducible refine w_sub ?_) | ((with_reducible refine' w_mod ?mo ?_); (case mo => first | assumption | decide | omega)) | (with_reducible refine w_and ?_) | (with_reducible refine w_or ?_) | (with_reducible refine w_xor ?_)
  | (with_reducible refine w_gt ?_) | (with_reducible refine w_lt ?_) | (with_reducible refine w_ge ?_) | (with_reducible refine w_le ?_) | ((with_reducible refine' w_eq ?sc ?_); (case sc => rfl)) | ((with_reducible refine' w_ne ?sc ?_); (case sc => rfl))
  | (with_reducible refine w_ret ?_) | (with_reducible refine w_next ?_) | (with_reducible refine w_ifs ?_) | (with_reducible refine w_ifx ?_) | (with_reducible refine w_test ?_) | (with_reducible refine w_tB ?_) | (with_reducible refine w_bl ?_)
  | ((with_reducible refine' w_ixL ?ixh ?ixa ?_); (case ixh => first | exact SqL.of (by assumption)); (case ixa => first | rfl | skip)) | ((with_reducible refine' w_ixT ?ixh ?ixa ?_); (case ixh => first | exact SqT.of (by assumption)); (case ixa => first | rfl | skip))
  | ((with_reducible refine' w_fld ?_)) | ((with_reducible refine' fld ?fh ?fc ?fn ?fl ?_); (case fh => assumption); (case fc => assumption); (case fn => assumption); (case fl => rfl)) | (with_reducible refine w_sfld ?_)
  | (with_reducible refine Or.inl ⟨_, rfl, ?_⟩) | (with_reducible refine w_gsub ?_) | (with_reducible refine w_andV ?_) | (with_reducible refine w_orV ?_)
  | (with_reducible refine w_nil ?_) | (with_reducible refine w_cons ?_) | (with_reducible refine w_tup ?_) | (with_reducible refine w_lst ?_) | (with_reducible refine w_and2 ?_) | (with_reducible refine w_or2 ?_) | (with_reducible refine w_not ?_) | (with_reducible refine w_cb ?_) | (with_reducible refine w_call ?_) | (with_reducible refine w_par ?_) | (with_reducible refine w_pnil ?_) | (with_reducible refine w_pcons ?_) | (with_reducible refine w_dput ?_) | (with_reducible refine w_dget ?_) | (with_reducible refine w_for ?_) | (with_reducible refine w_itup ?_) | (with_reducible refine w_ilist ?_) | (with_reducible refine w_irng ?_) | (with_reducible refine w_meth ?_) | (with_reducible refine w_make ?_) | (with_reducible refine w_makeK ?_) | (with_reducible refine w_methK ?_) | ((with_reducible refine' mth ?mh ?ml ?_); (case mh => assumption); (case ml => rfl)) | (with_reducible refine w_drop ?_))
local macro_rules | `(tactic| walk_at "go") => `(tactic| ((repeat (walk_at "1")); try dsimp only))
local macro_rules | `(tactic| walk_at "1") => `(tactic| first
  | (with_reducible refine w_notV ?_) | (with_reducible refine w_callK ?_) | (with_reducible refine w_lc ?_) | (with_reducible refine w_chain ?_) | (with_reducible refine w_neg ?_) | ((with_reducible refine' w_shr ?mo ?_); (case mo => first | assumption | omega)))
abbrev TU (Pt : Addr) : List (Addr × Str) := [(Pt, ("_law_unlike_right" ++ ".<locals>." : Str) ++ "<lambda>")]
theorem pcL {X : Cx} {A : Around} {outer : List Env} {s : Shared} {H : Hp} {E : XK} {scope : Scope} {f c' : Addr} {j k : Nat} {x : Str} {ps : List Str} {sp : Sp} {p pos : Pos} {e : Expr} {es : List Expr} {t : TA} (c : CalX X.prog X.w X.K X.mg X.base j x ps sp) (rm : Room k (LamX.lamCx X A outer s H E scope f c').A) (hk : j ≤ k) (gd : (LamX.lamCx X A outer s H E scope f c').A.guards = some []) (gl : Gl (LamX.lamCx X A outer s H E scope f c') x) (ha : PA (LamX.lamCx X A outer s H E scope f c') (e :: es) t)
    (hdb : (x == ("__debug__" : Str)) = false := by decide) (he : starEach (e :: es) (LamX.lamCx X A outer s H E scope f c').env = (false, eval e (LamX.lamCx X A outer s H E scope f c').env) :: starEach es (LamX.lamCx X A outer s H E scope f c').env := by rfl) (hpl : (backTo pos (starEach es (LamX.lamCx X A outer s H E scope f c').env)).any (·.1) = false := by rfl) :
    PE (LamX.lamCx X A outer s H E scope f c') (.Call (.Name x p) (e :: es) [] pos) (tCall sp [] E t) := by
  obtain ⟨g, fd, a, kp, b, _, F⟩ := c
  exact pe_gcall (X := LamX.lamCx X A outer s H E scope f c') F (rm.mono hk) gd gl a kp b .nil pass_lam ha hdb he hpl
theorem tabs_list {T : List (Addr × Str)} {H H' : Hp} {q : Addr} {xs : List V} (hq : H q = some (.lst xs)) (e : ∀ b, b ≠ q → H' b = H b) (t : Tabs T H) : Tabs T H' := fun pr hp => by
  obtain ⟨ps, h1, h2, h3⟩ := t pr hp
  refine ⟨ps, (e _ fun z => ?_).trans h1, h2, fun pos cv hc => ?_⟩
  · rw [z, hq] at h1
    cases h1
  · obtain ⟨c, e1, e2⟩ := h3 pos cv hc
    refine ⟨c, e1, (e _ fun z => ?_).trans e2⟩
    rw [z, hq] at e2
    unfold CodeO at e2
    cases e2
theorem KindAt.ext {KC k : Addr} {H H' : Hp} {r w d : Str} (h : KindAt KC H k r w d) (c : ExtN H H') : KindAt KC H' k r w d := by
  obtain ⟨dy, st, h1, h2⟩ := h
  exact ⟨dy, st, c _ _ h1 nofun, c _ _ h2 nofun⟩
theorem RowsAt.ext {H H' : Hp} {t : Addr} {rows : List (List Int)} (h : RowsAt H t rows) (c : ExtN H H') : RowsAt H' t rows := by
  obtain ⟨ts, h1, h2, h3⟩ := h
  exact ⟨ts, c _ _ h1 nofun, h2, fun j a r e1 e2 => c _ _ (h3 j a r e1 e2) nofun⟩
theorem EffAt.ext {C CE e k : Addr} {H H' : Hp} {r w d : Str} {F : List (List Int)} (h : EffAt C CE H e k r w d F) (c : ExtN H H') : EffAt C CE H' e k r w d F := by
  obtain ⟨dx, t, h1, h2, h3⟩ := h
  exact ⟨dx, t, c _ _ h1 nofun, h2.ext c, h3.ext c⟩
theorem Unl.ext {C CE e e' k k' : Addr} {H H' : Hp} (h : Unl C CE H e e' k k') (c : ExtN H H') : Unl C CE H' e e' k k' := by
  obtain ⟨r, w, d, r', w', d', F, F', h1, h2, h3⟩ := h
  exact ⟨r, w, d, r', w', d', F, F', h1.ext c, h2.ext c, h3⟩
theorem heardK_by {C k' : Addr} {ce : Nat → Addr} {tl : XK → Hp → VK → Prop} {H : Hp} {Q : VK} {r w d : Str} (hk : KindAt C H k' r w d) (kd : Kd r w d) (hq : ∀ H2, Same H H2 → Q (.str (PyData.list [.str "kind", .str (kTx r w d)]).shown) H2)
    (h : ∀ (E' : XK) (Q' : VK), tErrV E' H (ce 4) (.ref k') → tl E' H Q') : THeardK C ce tl H Q :=
  fun E' Q' hE => h E' Q' fun dd H' s hd => hE _ _ _ ⟨dd, k', r, w, d, rfl, rfl, hd, hk.sm s, kd.1, kd.2.1, kd.2.2, fun H2 s2 => hq H2 (s.trans s2)⟩
theorem kTx_lay : ∀ r ∈ RD, ∀ w ∈ WR, ∀ d ∈ DV, PyData.canLay0 (.str (PyData.list [.str "kind", .str (kTx r w d)]).shown) = true := by decide +kernel
/-- beside what is no effect -/
def spEN (K : PySem.W.Frag) (CE : Addr) : Sp := fun vs H Q _ => ∃ (e : Addr) (y : V) (t : Value), vs = [.ref e, y] ∧ TyX K H y t ∧ PySem.W.kitOne K t (.ref CE) = some false ∧ Q (.bl false) H
def spUL (C CE Pt : Addr) : Sp := fun vs H Q _ => ∃ (e e' k k' : Addr) (r w d r' w' d' : Str) (F F' : List (List Int)), vs = [.ref e, .ref e'] ∧ EffAt C CE H e k r w d F ∧ EffAt C CE H e' k' r' w' d' F' ∧ Kd r' w' d' ∧ ¬(r = r' ∧ w = w' ∧ d = d') ∧ Tabs (TU Pt) H ∧ ∀ H', ExtN H H' → Q (.bl true) H'
section
variable {P : Program} {w : World} {K : PySem.W.Frag} {mg : Str → Option Value} {base : Heap} {C CE aW aI : Addr} {mc : Value}
theorem ok_een {f fE : Addr} {fdE : FuncData} (D : MetAt K CE "__eq__" "Effect.__eq__" s_Effect___eq__ ["self", "other"] f) (TE : ET K mg CE) (B : B1 mg)
    (FEQ : Gd P w K mg base CX0 1 fE fdE ["self", "other"] (spEQ C)) (bEQ : Binds K fdE ["self", "other"] []) (eqI : PySem.W.findIn K (.ref C) "__eq__" = some (some (.ref fE))) (eqF : PySem.W.isFn K (.ref fE) = true) (nfC : PySem.W.notFirst K C (.ref C) = true) :
    ∃ fd, Meth K CE "__eq__" f ∧ Fun K "__eq__" "Effect.__eq__" s_Effect___eq__ f fd ∧ Binds K fd ["self", "other"] [] ∧ Gd P w K mg base CX0 3 f fd ["self", "other"] (spEN K CE) := by
  refine D.gd (k := 2) sc_Effect___eq__ (fun vs H Q E h => ?_) (fun cdv A outer s H vs Q E rm gd h => ?_)
  · obtain ⟨e, y, t, rfl, _⟩ := h
    rfl
  · obtain ⟨e, y, t, rfl, ty, kt, q⟩ := h
    refine ⟨_, (pss_one (ps_ret (pe_and (pe_callB call_isi (by rfl) B.g_isinstance (by decide +kernel) (pa_cons (pv 1) (pa_cons (pe_glob (v := .ref CE) rfl TE.g_Effect rfl) pa_nil))) (pe_and (pe_cmpR op_eq (pe_fld (pv 0) rfl) (pe_fld (pv 1) rfl) (nomark _)) (pe_one (pe_cmpR op_eq (pe_fld (pv 0) rfl) (pe_fld (pv 1) rfl) (nomark _))))))), ?_⟩
    walk_at "go"
    refine ⟨y, .ref CE, t, .ref CE, false, rfl, .own CE, ty, kt, false, rfl, ?_⟩
    exact iteF q
theorem ok_unlike {fl cl0 Pt BE fST fMU fOR fW fEE : Addr} {ce : Nat → Addr} {oc kV doc pm ct : Value} {an od : Option Addr} {osl : Array (Option Value)} {fdST fdMU fdOR fdW fdEE fdEN : FuncData}
    (lk : K.lookup fl = some ⟨oc, od, .func (PySem.W.fnOf "_law_unlike_right" "_law_unlike_right" (defArgs s__law_unlike_right) (defBody s__law_unlike_right) (defScope s__law_unlike_right) .none kV doc pm an (.ref cl0) ct), osl⟩) (code : PySem.W.codeIn K (.ref cl0) "_law_unlike_right" = true)
    (TBt : TabB base mg cl0 Pt) (TE : ET K mg CE) (T : KT K w mg C aW aI mc) (B : B1 mg) (ER : Er K mg BE ce) (DH : DefAt K mg "_law_heard" s__law_heard ["_law_ask"]) (gStr : mg "str" = none) (nfE : PySem.W.notFirst K CE (.ref CE) = true)
    (FST : Gd P w K mg base CX0 1 fST fdST ["self"] (spST C)) (stI : PySem.W.findIn K (.ref C) "__str__" = some (some (.ref fST))) (stF : PySem.W.isFn K (.ref fST) = true) (bST : Binds K fdST ["self"] [])
    (hcE : PySem.W.selfFirst K CE = true) (muI : PySem.W.findIn K (.ref CE) "__mul__" = some (some (.ref fMU))) (muF : PySem.W.isFn K (.ref fMU) = true) (FMX : Gd P w K mg base (L2.CX P w) 4 fMU fdMU ["self", "other"] (spSKX C CE (ce 4))) (bMX : Binds K fdMU ["self", "other"] [])
    (orI : PySem.W.findIn K (.ref CE) "__or__" = some (some (.ref fOR))) (orF : PySem.W.isFn K (.ref fOR) = true) (FOX : Gd P w K mg base (L2.CX P w) 4 fOR fdOR ["self", "other"] (spSKX C CE (ce 4))) (bOX : Binds K fdOR ["self", "other"] [])
    (mW : Meth K CE "within" fW) (FWX : Gd P w K mg base (L2.CX P w) 4 fW fdW ["self", "b"] (spSKX C CE (ce 4))) (bWX : Binds K fdW ["self", "b"] [])
    (cPX : CalX P w K mg base 4 "effect_parting" ["a", "b"] (spSKX C CE (ce 4)))
    (FEE : Gd P w K mg base CX0 3 fEE fdEE ["self", "other"] (spEE C CE)) (bEE : Binds K fdEE ["self", "other"] []) (FEN : Gd P w K mg base CX0 3 fEE fdEN ["self", "other"] (spEN K CE)) (bEN : Binds K fdEN ["self", "other"] []) (eeI : PySem.W.findIn K (.ref CE) "__eq__" = some (some (.ref fEE))) (eeF : PySem.W.isFn K (.ref fEE) = true)
    (kt : ∀ n : String, n = "int" ∨ n = "str" ∨ n = "tuple" → PySem.W.kitOne K (.type n) (.ref CE) = some false ∧ PySem.W.notFirst K CE (.type n) = true) :
    Gd P w K mg base CX0 7 fl (PySem.W.fnOf "_law_unlike_right" "_law_unlike_right" (defArgs s__law_unlike_right) (defBody s__law_unlike_right) (defScope s__law_unlike_right) .none kV doc pm an (.ref cl0) ct) ["_law_one", "_law_other"] (spUL C CE Pt) := by
  refine gd_of (k := 6) lk code sc__law_unlike_right (fun vs H Q E h => ?_) (fun A outer s H vs Q E rm gd h => ?_)
  · obtain ⟨e, e', k, k', r, wr, d, r', w', d', F, F', rfl, _⟩ := h
    rfl
  · obtain ⟨e, e', k, k', r, wr, d, r', w', d', F, F', rfl, he, he', kd, ne, tabs, q⟩ := h
    suffices h : ∃ t', PSs (cxOf CX0 P w K mg base ["_law_one", "_law_other", "_law_heard_here", "_law_marks"] "_law_unlike_right" (defScope s__law_unlike_right) fl (.ref cl0) A outer s H E).nox (defBody s__law_unlike_right) t' ∧ t' { nx := fun _ H' => Q .non H', rt := Q } (start ["_law_one", "_law_other", "_law_heard_here", "_law_marks"] [.ref e, .ref e']) H by
      obtain ⟨t, h1, h2⟩ := h
      exact ⟨t, h1.nox, h2⟩
    have clE := TE.cl
    have nK := TE.nK
    have un : Unl C CE H e e' k k' := ⟨r, wr, d, r', w', d', F, F', he, he', ne⟩
    generalize htx : (PyData.list [.str "kind", .str (kTx r' w' d')]).shown = tx
    refine ⟨_, (pss_cons (ps_set (i := 2) sc__law_unlike_right.nd rfl (Or.inl rfl) (pe_lst (pa_cons (pe_lam (k := 4) (t := fun E => tOp (rOO CE (spSKX C CE (ce 4)) E) (tVar 0) (tVar 1)) (T := TU Pt) DH (heard_gives (k := 5) (by decide) gStr FST stI stF bST ER rm gd) rfl TBt rfl (List.mem_singleton.mpr rfl) (fun p hp _ => by rw [List.mem_singleton.mp hp]; rfl) rm gd ⟨lamS_by (sc := defScope s__law_unlike_right) (by decide +kernel), fun _ _ _ _ _ => rfl⟩ rfl (fun A outer s H E f c' rm3 gd3 => (pe_op (op_OO hcE muI muF FMX (rm3.mono (by decide)) gd3 bMX pass_lam) (pv 0) (pv 1)))) pa_nil)))
    (pss_cons (ps_expr (pe_bm PySem.F.plainAttrs_list PySem.F.slot_list_append PySem.F.type_list_append mt_append (pv 2) (pa_cons (pe_lam (k := 4) (t := fun E => tOp (rOO CE (spSKX C CE (ce 4)) E) (tVar 0) (tVar 1)) (T := TU Pt) DH (heard_gives (k := 5) (by decide) gStr FST stI stF bST ER rm gd) rfl TBt rfl (List.mem_singleton.mpr rfl) (fun p hp _ => by rw [List.mem_singleton.mp hp]; rfl) rm gd ⟨lamS_by (sc := defScope s__law_unlike_right) (by decide +kernel), fun _ _ _ _ _ => rfl⟩ rfl (fun A outer s H E f c' rm3 gd3 => (pe_op (op_OO hcE orI orF FOX (rm3.mono (by decide)) gd3 bOX pass_lam) (pv 0) (pv 1)))) pa_nil)))
    (pss_cons (ps_expr (pe_bm PySem.F.plainAttrs_list PySem.F.slot_list_append PySem.F.type_list_append mt_append (pv 2) (pa_cons (pe_lam (k := 4) (t := fun E => tMeth CE "within" (spSKX C CE (ce 4)) [] E (tVar 0) (tCons (tVar 1) tNil)) (T := TU Pt) DH (heard_gives (k := 5) (by decide) gStr FST stI stF bST ER rm gd) rfl TBt rfl (List.mem_singleton.mpr rfl) (fun p hp _ => by rw [List.mem_singleton.mp hp]; rfl) rm gd ⟨lamS_by (sc := defScope s__law_unlike_right) (by decide +kernel), fun _ _ _ _ _ => rfl⟩ rfl (fun A outer s H E f c' rm3 gd3 => (pe_gmeth (pv 0) TE.cl mW FWX (rm3.mono (by decide)) gd3 bWX .nil pass_lam (pa_cons (pv 1) pa_nil)))) pa_nil)))
    (pss_cons (ps_expr (pe_bm PySem.F.plainAttrs_list PySem.F.slot_list_append PySem.F.type_list_append mt_append (pv 2) (pa_cons (pe_lam (k := 4) (t := fun E => tCall (spSKX C CE (ce 4)) [] E (tCons (tVar 0) (tCons (tVar 1) tNil))) (T := TU Pt) DH (heard_gives (k := 5) (by decide) gStr FST stI stF bST ER rm gd) rfl TBt rfl (List.mem_singleton.mpr rfl) (fun p hp _ => by rw [List.mem_singleton.mp hp]; rfl) rm gd ⟨lamS_by (sc := defScope s__law_unlike_right) (by decide +kernel), fun _ _ _ _ _ => rfl⟩ rfl (fun A outer s H E f c' rm3 gd3 => (pcL cPX rm3 (by decide) gd3 rfl (pa_cons (pv 0) (pa_cons (pv 1) pa_nil))))) pa_nil)))
    (pss_cons (ps_set (i := 3) sc__law_unlike_right.nd rfl (Or.inl rfl) (pe_lst (pa_cons (pe_cmpR (op_eqO FEE (rm.mono (by decide)) gd eeI eeF bEE pass0) (pv 0) (pv 1) (nomark _)) (pa_cons (pe_cmpR (op_eqO FEN (rm.mono (by decide)) gd eeI eeF bEN pass0) (pv 0) pe_str (nomark _)) (pa_cons (pe_cmpR (op_eqO FEN (rm.mono (by decide)) gd eeI eeF bEN pass0) (pv 0) (pe_tup pa_nil) (nomark _)) (pa_cons (pe_cmpR (op_eqO FEN (rm.mono (by decide)) gd eeI eeF bEN pass0) (pv 0) pe_int (nomark _)) pa_nil))))))
    (pss_one (ps_ret (pe_and (pe_cmpR (op_eqD rm.units) (pv 2) (pe_op op_rep (pe_lst (pa_cons (pe_callB (call_repr rm gd) (by rfl) B.g_repr (by decide +kernel) (pa_cons (pe_lst (pa_cons pe_str (pa_cons (pe_callTy (T := "str") (r := rStrO C (spST C) E0) (call_strO FST (rm.mono (by decide)) gd stI stF bST pass0) (by rfl) gStr (by decide +kernel) (pa_cons (pe_fld (pv 1) rfl) pa_nil)) pa_nil))) pa_nil)) pa_nil)) pe_int) (nomark _)) (pe_one (pe_cmpR (op_eqD rm.units) (pv 3) (pe_op op_rep (pe_lst (pa_cons pe_bl pa_nil)) pe_int) (nomark _))))))))))), ?_⟩
    walk_at "go"
    refine ⟨tabs, fun A1 ea1 ta1 => ?_⟩
    have hk' : KindAt C H k' r' w' d' := by
      obtain ⟨_, _, _, z, _⟩ := he'
      exact z
    have effs : ∀ {G : Hp}, ExtN H G → ∃ dx t dx' t', G e = some (.ins CE dx (ef k t)) ∧ G e' = some (.ins CE dx' (ef k' t')) := fun {G} c => by
      obtain ⟨dx, t, a, _⟩ := he.ext c
      obtain ⟨dx', t', a', _⟩ := he'.ext c
      exact ⟨dx, t, dx', t', a, a'⟩
    have op : ∀ {G : Hp} {E' : XK} {Q' : VK}, ExtN H G → tErrV E' G (ce 4) (.ref k') → rOO CE (spSKX C CE (ce 4)) E' (.ref e) (.ref e') G Q' := fun {G E' Q'} c hE => by
      obtain ⟨dx, t, dx', t', a, a'⟩ := effs c
      exact ⟨e, e', dx, dx', _, _, rfl, rfl, a, a', e, e', k, k', rfl, un.ext c, hE⟩
    refine heardK_by (hk'.ext ea1) kd (fun B1 sb1 => ?_) (fun E' Q' hE => ?_)
    rotate_left
    · walk_at "go"
      exact op ea1 hE
    rw [htx]
    walk_at "go"
    refine new (show 1 ≤ sizeLine by decide) fun p G1 np1 hp1 sp1 => ?_
    have ex1 : ExtN H G1 := ea1.trans (ExtN.of (sb1.trans sp1))
    have tb1 := (ta1.ext sb1).ext sp1
    have nH : ∀ {a : Addr} {o : HO}, H a = some o → (∀ ps, o ≠ .tbl ps) → a ≠ p := fun e n => ne_of_none (sb1 _ _ (ea1 _ _ e n)) np1
    have hp1 : G1 p = some (.lst [.str tx]) := hp1
    walk_at "go"
    refine w_bm ?_
    walk_at "go"
    refine ⟨ty_list hp1, ?_⟩
    walk_at "go"
    refine ⟨tb1, fun A2 ea2 ta2 => ?_⟩
    refine heardK_by (hk'.ext (ex1.trans ea2)) kd (fun B2 sb2 => ?_) (fun E' Q' hE => ?_)
    rotate_left
    · walk_at "go"
      exact op (ex1.trans ea2) hE
    rw [htx]
    walk_at "go"
    have hq2 := sb2 _ _ (ea2 _ _ hp1 nofun)
    refine w_app hq2 (show 1 < sizeLine by decide) rfl fun G2 hp2 cg2 => ?_
    have hp2 : G2 p = some (.lst [.str tx, .str tx]) := hp2
    have tb2 := tabs_list hq2 cg2 (ta2.ext sb2)
    have ex2 : ExtN H G2 := fun a o e n => (cg2 a (nH e n)).trans (sb2 _ _ (ea2 _ _ (ex1 _ _ e n) n))
    walk_at "go"
    refine w_bm ?_
    walk_at "go"
    refine ⟨ty_list hp2, ?_⟩
    walk_at "go"
    refine ⟨tb2, fun A3 ea3 ta3 => ?_⟩
    refine heardK_by (hk'.ext (ex2.trans ea3)) kd (fun B3 sb3 => ?_) (fun E' Q' hE => ?_)
    rotate_left
    · walk_at "go"
      obtain ⟨dx, t, dx', t', a, a'⟩ := effs (ex2.trans ea3)
      refine mth a rfl ?_
      walk_at "go"
      exact ⟨e, e', k, k', rfl, un.ext (ex2.trans ea3), hE⟩
    rw [htx]
    walk_at "go"
    have hq3 := sb3 _ _ (ea3 _ _ hp2 nofun)
    refine w_app hq3 (show 2 < sizeLine by decide) rfl fun G3 hp3 cg3 => ?_
    have hp3 : G3 p = some (.lst [.str tx, .str tx, .str tx]) := hp3
    have tb3 := tabs_list hq3 cg3 (ta3.ext sb3)
    have ex3 : ExtN H G3 := fun a o e n => (cg3 a (nH e n)).trans (sb3 _ _ (ea3 _ _ (ex2 _ _ e n) n))
    walk_at "go"
    refine w_bm ?_
    walk_at "go"
    refine ⟨ty_list hp3, ?_⟩
    walk_at "go"
    refine ⟨tb3, fun A4 ea4 ta4 => ?_⟩
    refine heardK_by (hk'.ext (ex3.trans ea4)) kd (fun B4 sb4 => ?_) (fun E' Q' hE => ?_)
    rotate_left
    · walk_at "go"
      exact ⟨e, e', k, k', rfl, un.ext (ex3.trans ea4), hE⟩
    rw [htx]
    walk_at "go"
    have hq4 := sb4 _ _ (ea4 _ _ hp3 nofun)
    refine w_app hq4 (show 3 < sizeLine by decide) rfl fun G4 hp4 cg4 => ?_
    have hp4 : G4 p = some (.lst [.str tx, .str tx, .str tx, .str tx]) := hp4
    have tb4 := tabs_list hq4 cg4 (ta4.ext sb4)
    have ex4 : ExtN H G4 := fun a o e n => (cg4 a (nH e n)).trans (sb4 _ _ (ea4 _ _ (ex3 _ _ e n) n))
    walk_at "go"
    obtain ⟨dx, t, dx', t', a4, a4'⟩ := effs ex4
    have he4 := he.ext ex4
    have he4' := he'.ext ex4
    have ins4 : ∀ {G : Hp} {b dy : Addr} {fs : List (Str × V)}, G b = some (.ins CE dy fs) → TyX K G (.ref b) (.ref CE) := fun h => .base (.ins h clE TE.isC T.isG T.isT TE.isM)
    have df : (decide (r = r') && decide (wr = w') && decide (d = d')) = false := by
      by_cases a : r = r' <;> by_cases b : wr = w' <;> by_cases c : d = d' <;> simp_all
    refine ⟨e, dx, _, .ref CE, rfl, a4, ins4 a4', nfE, e, e', k, k', r, wr, d, r', w', d', F, F', rfl, he4, he4', _, rfl, ?_⟩
    rw [df, Bool.false_and]
    walk_at "go"
    refine ⟨e, dx, _, .type "str", rfl, a4, .base (.str _), (kt "str" (.inr (.inl rfl))).2, e, _, .type "str", rfl, .base (.str _), (kt "str" (.inr (.inl rfl))).1, _, rfl, ?_⟩
    walk_at "go"
    refine new (show 0 ≤ sizeLine by decide) fun t5 H5 n5 h5 s5 => ?_
    refine ⟨e, dx, _, .type "tuple", rfl, s5 _ _ a4, .base (.tup h5), (kt "tuple" (.inr (.inr rfl))).2, e, _, .type "tuple", rfl, .base (.tup h5), (kt "tuple" (.inr (.inr rfl))).1, _, rfl, ?_⟩
    walk_at "go"
    refine ⟨e, dx, _, .type "int", rfl, s5 _ _ a4, .base (.int _), (kt "int" (.inl rfl)).2, e, _, .type "int", rfl, .base (.int _), (kt "int" (.inl rfl)).1, _, rfl, ?_⟩
    walk_at "go"
    refine new (show 4 ≤ sizeLine by decide) fun m6 H6 n6 h6 s6 => ?_
    have h6 : H6 m6 = some (.lst [.bl false, .bl false, .bl false, .bl false]) := h6
    have s46 : Same G4 H6 := s5.trans s6
    have he6 := he4'.sm s46
    obtain ⟨dx6, t6, a6, hk6, _⟩ := id he6
    obtain ⟨dk, sk, hkk, _⟩ := id hk6
    walk_at "go"
    refine ⟨k', dk, _, rfl, hkk, k', r', w', d', rfl, hk6, kd.1, kd.2.1, kd.2.2, _, rfl, ?_⟩
    walk_at "go"
    refine new (show 2 ≤ sizeLine by decide) fun p7 H7 n7 h7 s7 => ?_
    walk_at "go"
    obtain ⟨y1, y2, y3, y4⟩ := kTx_ok r' kd.1 w' kd.2.1 d' kd.2.2
    refine ⟨.ref p7, .list [.str "kind", .str (kTx r' w' d')], rfl, .lst (SqL.of h7) (.cons (.str _) (.cons (.str _) .nil)), y1, y4, y2, Nat.le_trans y3 (by decide), ?_⟩
    rw [htx]
    walk_at "go"
    refine new (show 1 ≤ sizeLine by decide) fun p8 H8 n8 h8 s8 => ?_
    walk_at "go"
    refine ⟨p8, 4, _, rfl, rfl, h8, by decide, by decide, show 1 * 4 ≤ sizeLine by decide, fun p9 n9 => ?_⟩
    have s9 : Same H8 (upd H8 p9 (.lst (List.replicate (4 : Int).toNat [V.str tx]).flatten)) := fun b o e => by
      rw [upd_ne (ne_of_none e n9)]
      exact e
    have h9 : upd H8 p9 (.lst (List.replicate (4 : Int).toNat [V.str tx]).flatten) p9 = some (.lst [.str tx, .str tx, .str tx, .str tx]) := upd_same
    generalize upd H8 p9 (.lst (List.replicate (4 : Int).toNat [V.str tx]).flatten) = H9 at s9 h9
    walk_at "go"
    have ot : PyData.canLay0 (.str tx) = true := htx ▸ kTx_lay r' kd.1 w' kd.2.1 d' kd.2.2
    have ot : PyData.strOk tx = true := ot
    have sh : SeqAt.shaped (.list [.str tx, .str tx, .str tx, .str tx]) = true := by
      simp [SeqAt.shaped, PyData.canLay0, PyData.canLayAll0, PyData.depth, PyData.depthAll, ot]
    have eq : PyData.eqv (.list [.str tx, .str tx, .str tx, .str tx]) (.list [.str tx, .str tx, .str tx, .str tx]) = true := by
      simp [PyData.eqv, PyData.eqvAll]
    have s69 : Same H6 H9 := s7.trans (s8.trans s9)
    refine ⟨_, _, .lst (SqL.of (s69 _ _ (s46 _ _ hp4))) (.cons (.str _) (.cons (.str _) (.cons (.str _) (.cons (.str _) .nil)))), .lst (SqL.of h9) (.cons (.str _) (.cons (.str _) (.cons (.str _) (.cons (.str _) .nil)))), sh, sh, _, rfl, ?_⟩
    rw [eq]
    refine iteT ?_
    walk_at "go"
    refine new (show 1 ≤ sizeLine by decide) fun p10 H10 n10 h10 s10 => ?_
    walk_at "go"
    refine ⟨p10, 4, _, rfl, rfl, h10, by decide, by decide, show 1 * 4 ≤ sizeLine by decide, fun p11 n11 => ?_⟩
    have s11 : Same H10 (upd H10 p11 (.lst (List.replicate (4 : Int).toNat [V.bl false]).flatten)) := fun b o e => by
      rw [upd_ne (ne_of_none e n11)]
      exact e
    have h11 : upd H10 p11 (.lst (List.replicate (4 : Int).toNat [V.bl false]).flatten) p11 = some (.lst [.bl false, .bl false, .bl false, .bl false]) := upd_same
    generalize upd H10 p11 (.lst (List.replicate (4 : Int).toNat [V.bl false]).flatten) = H11 at s11 h11
    have s911 : Same H9 H11 := s10.trans s11
    walk_at "go"
    refine ⟨_, _, .lst (SqL.of (s911 _ _ (s69 _ _ h6))) (.cons (.bl _) (.cons (.bl _) (.cons (.bl _) (.cons (.bl _) .nil)))), .lst (SqL.of h11) (.cons (.bl _) (.cons (.bl _) (.cons (.bl _) (.cons (.bl _) .nil)))), by decide +kernel, by decide +kernel, ?_⟩
    rw [show PyData.eqv (.list [.bool false, .bool false, .bool false, .bool false]) (.list [.bool false, .bool false, .bool false, .bool false]) = true by decide +kernel]
    exact q _ (ex4.trans (ExtN.of (s46.trans (s69.trans s911))))
end
end Law

set_option Elab.async false
set_option linter.all false
set_option maxRecDepth 100000
set_option maxHeartbeats 1000000
/-! KW3: a classmethod of the class, by values and keywords. -/
namespace KG
open PySem PySem.Spec PySem.Calls PyProof.Rows L2
section
variable {X : Cx} {CX : CXT} {k n : Nat} {C p g f : Addr} {mc : Value} {fd : FuncData} {ps ks : List Str} {sp : Sp} {E : XK} {o e : Expr} {es : List Expr} {kws : List Keyword} {m x : Str} {pos apos : Pos} {ta : TE} {t tk : TA} {gg : List Value → List Value → List Value} {gV : List V → List V → List V}
/-- o.m(e, .., k = v, ..), o the class, m a classmethod -/
def tCmM (C : Addr) (n j : Nat) (sp : Sp) (gV : List V → List V → List V) (E : XK) (ta : TE) (t tk : TA) : TE := fun σ H Q => ta σ H fun x H1 => x = .ref C ∧ t σ H1 fun vs H2 => tk σ H2 fun zs H3 => vs.length = n ∧ zs.length = j ∧ sp (gV (.ref C :: vs) zs) H3 Q E
theorem pe_gcmM {pl : Sem Bool} (he : PE X o ta) (r : ClX.CRead X.K C mc) (c : ClX.CMet X.K C mc m p g) (F : Gd X.prog X.w X.K X.mg X.base CX k g fd ps sp) (rm : Room k X.A) (gd : X.A.guards = some []) (hb : KBn X.K fd ps (n + 1) ks gg gV) (hx : Passes CX X E) (ha : PA X (e :: es) t) (hkw : PK X kws tk)
    (hst : starEach (e :: es) X.env = (false, eval e X.env) :: starEach es X.env := by rfl)
    (hall : (backToKw pos (keywordEach kws X.env)).all (·.1.isSome) = true := by rfl) (hks : (backToKw pos (keywordEach kws X.env)).filterMap (·.1) = ks := by rfl)
    (hpl : ((backTo pos (starEach (e :: es) X.env)).any (·.1) || (backToKw pos (keywordEach kws X.env)).any (·.1.isNone)) = false := by rfl)
    (ht : eval (.Call (.Attribute o m apos) (e :: es) kws pos) X.env = (do
      let w ← eval o X.env
      standAt apos.atName
      let (g, a) ← holding [w] (getMethod w m pl)
      callWith pos g a (backTo pos (starEach (e :: es) X.env)) (backToKw pos (keywordEach kws X.env))) := by rfl) :
    PE X (.Call (.Attribute o m apos) (e :: es) kws pos) (tCmM C n ks.length sp gV E ta t tk) := by
  refine ⟨fun pins s σ H Q I z => PySem.W.methodCall_KW (pl := pl) (thn (he.run pins s σ H _ I z) fun u s1 z1 => ?_) ht⟩
  obtain ⟨_, H1, J, ru, rfl, q⟩ := z1
  obtain rfl : u = Value.ref C := ru
  refine ClX.getmethcm_ok J r c fun s2 J2 => ?_
  refine PySem.W.callWith_of hpl (PySem.W.keeps_M (self := .ref C) c.fi) (evalArgs_kw2 hall (thn (ha.run pos _ s2 σ H1 _ J2 q) fun us s3 z3 => ?_) hst)
  obtain ⟨vs, H2, J3, rv, q2⟩ := z3
  refine thn (hkw.run pos _ s3 σ H2 _ J3 q2) fun ws s4 z4 => ?_
  obtain ⟨zs, H3, J4, rz, lv, lz, q3⟩ := z4
  refine ⟨⟨ClX.pin_at J4, J4.kIn⟩, ?_⟩
  rw [hks]
  have r1 : Vals (V.ref C :: vs) (Value.ref C :: us) := .cons rfl rv
  exact run_cm F rm gd hx J4 (hb.to s4 (.ref C :: us) ws J4.kIn (by rw [List.length_cons, ← rv.length, lv]) (rz.length.symm.trans lz)) (hb.rel r1 rz) q3
end
end KG

set_option Elab.async false
set_option linter.all false
set_option maxRecDepth 100000
set_option maxHeartbeats 4000000
namespace Law
open PySem PySem.Spec PySem.Calls PyProof.Rows L2 KG LamX
local macro_rules | `(tactic| walk_at "1") => `(tactic| first
  | (with_reducible refine w_var rfl ?_) | (with_reducible refine w_c ?_) | (with_reducible refine w_seq ?_) | (with_reducible refine w_asg ?_) | (with_reducible refine w_gname ?_) | (with_reducible refine w_op ?_) | (with_reducible refine w_un ?_)
  | (with_reducible refine w_add ?_) | (with_reducible refine w_sub ?_) | ((with_reducible refine' w_mod ?mo ?_); (case mo => first | assumption | decide | omega)) | (with_reducible refine w_and ?_) | (with_reducible refine w_or ?_) | (with_reducible refine w_xor ?_)
  | (with_reducible refine w_gt ?_) | (with_reducible refine w_lt ?_) | (with_reducible refine w_ge ?_) | (with_reducible refine w_le ?_) | ((with_reducible refine' w_eq ?sc ?_); (case sc => rfl)) | ((with_reducible refine' w_ne ?sc ?_); (case sc => rfl))
  | (with_reducible refine w_ret ?_) | (with_reducible refine w_next ?_) | (with_reducible refine w_ifs ?_) | (with_reducible refine w_ifx ?_) | (with_reducible refine w_test ?_) | (with_reducible refine w_tB ?_) | (with_reducible refine w_bl ?_)
  | ((with_reducible refine' w_ixL ?ixh ?ixa ?_); (case ixh => first | exact SqL.of (by assumption)); (case ixa => first | rfl | skip)) | ((with_reducible refine' w_ixT ?ixh ?ixa ?_); (case ixh => first | exact SqT.of (by assumption)); (case ixa => first | rfl | skip))
  | ((with_reducible refine' w_fld ?_)) | ((with_reducible refine' fld ?fh ?fc ?fn ?fl ?_); (case fh => assumption); (case fc => assumption); (case fn => assumption); (case fl => rfl)) | (with_reducible refine w_sfld ?_)
  | (with_reducible refine Or.inl ⟨_, rfl, ?_⟩) | (with_reducible refine w_gsub ?_) | (with_reducible refine w_andV ?_) | (with_reducible refine w_orV ?_)
  | (with_reducible refine w_nil ?_) | (with_reducible refine w_cons ?_) | (with_reducible refine w_tup ?_) | (with_reducible refine w_lst ?_) | (with_reducible refine w_and2 ?_) | (with_reducible refine w_or2 ?_) | (with_reducible refine w_not ?_) | (with_reducible refine w_cb ?_) | (with_reducible refine w_call ?_) | (with_reducible refine w_par ?_) | (with_reducible refine w_pnil ?_) | (with_reducible refine w_pcons ?_) | (with_reducible refine w_dput ?_) | (with_reducible refine w_dget ?_) | (with_reducible refine w_for ?_) | (with_reducible refine w_itup ?_) | (with_reducible refine w_ilist ?_) | (with_reducible refine w_irng ?_) | (with_reducible refine w_meth ?_) | (with_reducible refine w_make ?_) | (with_reducible refine w_makeK ?_) | (with_reducible refine w_methK ?_) | ((with_reducible refine' mth ?mh ?ml ?_); (case mh => assumption); (case ml => rfl)) | (with_reducible refine w_drop ?_))
local macro_rules | `(tactic| walk_at "go") => `(tactic| ((repeat (walk_at "1")); try dsimp only))
local macro_rules | `(tactic| walk_at "1") => `(tactic| first
  | (with_reducible refine w_notV ?_) | (with_reducible refine w_callK ?_) | (with_reducible refine w_lc ?_) | (with_reducible refine w_chain ?_) | (with_reducible refine w_neg ?_) | ((with_reducible refine' w_shr ?mo ?_); (case mo => first | assumption | omega)))
def spLaw (K : PySem.W.Frag) (Pt : Addr) : Sp := fun vs H Q _ => ∃ (a : Addr) (ns : List Int), vs = [.ref a] ∧ SqL K H a (ns.map V.int) ∧ ns.length ≤ 63 ∧ H Pt = some (.tbl #[]) ∧ ∀ H', Q (.bl true) H'
/-- letters, at most twelve -/
def LetS (x : Str) : Prop := x.cps.size ≤ 12 ∧ ∀ c ∈ x.cps.toList, c ∈ ("01r" : Str).cps.toList
theorem LetS.lets {x : Str} (h : LetS x) : Lets x := ⟨Nat.le_trans h.1 (by decide), h.2⟩
def spLetsS : Sp := fun vs H Q _ => ∃ (p l : Addr) (cells : List Int) (n : Nat) (m : Int), vs = [.ref p, .int m] ∧ PenC n p l cells H ∧ n + 60 ≤ 100000 ∧ 0 ≤ m ∧ m ≤ 12 ∧ ∀ (x : Str) H', LetS x → PenC (n + 45) p l cells H' → Kp p H H' → Q (.str x) H'
theorem cat_list (x y : Str) : (x ++ y).cps.toList = x.cps.toList ++ y.cps.toList := by
  show (x.cps ++ y.cps).toList = _
  rw [Array.toList_append]
theorem cat_size (x y : Str) : (x ++ y).cps.size = x.cps.size + y.cps.size := by
  show (x.cps ++ y.cps).size = _
  rw [Array.size_append]
theorem cat_lets {x y : Str} {n m : Nat} (hx : x.cps.size ≤ n ∧ ∀ c ∈ x.cps.toList, c ∈ ("01r" : Str).cps.toList) (hy : y.cps.size ≤ m ∧ ∀ c ∈ y.cps.toList, c ∈ ("01r" : Str).cps.toList) : (x ++ y).cps.size ≤ n + m ∧ ∀ c ∈ (x ++ y).cps.toList, c ∈ ("01r" : Str).cps.toList := by
  refine ⟨by rw [cat_size]; exact Nat.add_le_add hx.1 hy.1, fun c hc => ?_⟩
  rw [cat_list] at hc
  rcases List.mem_append.mp hc with h | h
  · exact hx.2 c h
  · exact hy.2 c h
section
variable {P : Program} {w : World} {K : PySem.W.Frag} {mg : Str → Option Value} {base : Heap}
theorem ok_letters12 (D : DefAt K mg "_law_letters" s__law_letters ["_law_pen_here", "_law_most"]) (B : B1 mg) (c_law_draw : Cal P w K mg base 1 "_law_draw" spDraw) : Cal P w K mg base 2 "_law_letters" spLetsS := by
  refine D.cal (k := 1) sc__law_letters (fun vs H Q E h => ?_) (fun f cdv A outer s H vs Q E rm gd h => ?_)
  · obtain ⟨p, l, cells, n, m, rfl, _⟩ := h
    rfl
  · obtain ⟨p, l, cells, n, m, rfl, pen, hn, m0, m1, q⟩ := h
    refine ⟨_, (pss_cons (ps_set (i := 2) sc__law_letters.nd rfl (Or.inl rfl) (pe_ix ix_list (pe_lst (pa_cons (pc c_law_draw rm (by decide) gd rfl (pa_cons (pv 0) (pa_cons (pe_op op_add (pv 1) pe_int) pa_nil))) (pa_cons (pc c_law_draw rm (by decide) gd rfl (pa_cons (pv 0) (pa_cons pe_int pa_nil))) (pa_cons (pc c_law_draw rm (by decide) gd rfl (pa_cons (pv 0) (pa_cons pe_int pa_nil))) pa_nil)))) (pc c_law_draw rm (by decide) gd rfl (pa_cons (pv 0) (pa_cons pe_int pa_nil))) (fun _ _ => rfl)))
    (pss_cons (ps_set (i := 3) sc__law_letters.nd rfl (Or.inr rfl) (pe_ix ix_list (pe_lst (pa_cons pe_str (pa_cons pe_str (pa_cons pe_str (pa_cons pe_str (pa_cons pe_str (pa_cons pe_str pa_nil))))))) (pc c_law_draw rm (by decide) gd rfl (pa_cons (pv 0) (pa_cons pe_int pa_nil))) (fun _ _ => rfl)))
    (pss_one (ps_ret (pe_join pe_str (pe_lc (own := [("_law_turn", 4)]) (g := (gName 4)) (by rfl) sc__law_letters.nd (pi_range1 rfl B.g_range (pa_cons (pv 2) pa_nil)) (blkOk_by (own := [("_law_turn", 4)]) (N := ["_law_pen_here", "_law_most", "_law_size", "_law_signs", "_law_turn"]) (sc := defScope s__law_letters) (by decide +kernel)) (fun _ _ _ _ _ => (pg_name (i := 4) sc__law_letters.nd rfl (Or.inl rfl))) (fun _ _ _ _ _ => pts_nil) (fun _ _ _ _ _ => (pe_ix ix_str (pv 3) (pc c_law_draw rm (by decide) gd rfl (pa_cons (pv 0) (pa_cons (pe_callB call_len_str (by rfl) B.g_len (by decide +kernel) (pa_cons (pv 3) pa_nil)) pa_nil))) (fun _ _ => rfl))))))))), ?_⟩
    walk_at "go"
    refine ⟨p, l, cells, n, m + 1, rfl, pen, by omega, by omega, by omega, fun d1 H1 a0 a1 pen1 k1 => ?_⟩
    walk_at "go"
    refine ⟨p, l, cells, n + 1, 5, rfl, pen1, by omega, by decide, by decide, fun d2 H2 b0 b1 pen2 k2 => ?_⟩
    walk_at "go"
    refine ⟨p, l, cells, n + 2, 9, rfl, pen2, by omega, by decide, by decide, fun d3 H3 c0 c1 pen3 k3 => ?_⟩
    walk_at "go"
    refine new (show 3 ≤ sizeLine by decide) fun t4 H4 n4 h4 s4 => ?_
    walk_at "go"
    have pen4 := pen3.same s4
    refine ⟨p, l, cells, n + 3, 3, rfl, pen4, by omega, by decide, by decide, fun d5 H5 e0 e1 pen5 k5 => ?_⟩
    obtain ⟨t4p, t4l⟩ := pen3.ne n4
    have h5 := k5 _ _ h4 t4p
    obtain ⟨sz, z0, z1, ez⟩ : ∃ sz : Int, 0 ≤ sz ∧ sz ≤ 12 ∧ atI [V.int d1, V.int d2, V.int d3] d5 = some (.int sz) := by
      have h3 : d5 = 0 ∨ d5 = 1 ∨ d5 = 2 := by omega
      rcases h3 with rfl | rfl | rfl
      · exact ⟨d1, a0, by omega, rfl⟩
      · exact ⟨d2, b0, by omega, rfl⟩
      · exact ⟨d3, c0, by omega, rfl⟩
    refine w_ixL (SqL.of h5) ez ?_
    walk_at "go"
    refine new (show 6 ≤ sizeLine by decide) fun t6 H6 n6 h6 s6 => ?_
    walk_at "go"
    have pen6 := pen5.same s6
    refine ⟨p, l, cells, n + 4, 6, rfl, pen6, by omega, by decide, by decide, fun d7 H7 f0 f1 pen7 k7 => ?_⟩
    obtain ⟨t6p, t6l⟩ := pen5.ne n6
    obtain ⟨z, hz, ezz⟩ := at_strs (l := SG) f0 f1
    obtain ⟨zl, zh, zc⟩ := sg_ok z hz
    refine w_ixL (SqL.of (k7 _ _ h6 t6p)) ezz ?_
    walk_at "go"
    have kA : Kp p H H7 := fun b o hb nb => k7 _ _ (s6 _ _ (k5 _ _ (s4 _ _ (k3 _ _ (k2 _ _ (k1 _ _ hb nb) nb) nb)) nb)) nb
    refine w_tM1 ?_
    walk_at "go"
    refine ⟨⟨_, rfl⟩, ?_⟩
    walk_at "go"
    refine over_r (by omega) (by omega) ?_
    intro D nD
    have zD : Same H7 (upd H7 D (.lst [])) := fun b u e => by
      rw [upd_ne (ne_of_none e nD)]
      exact e
    obtain ⟨Dp, Dl⟩ := pen7.ne nD
    obtain ⟨szn, rfl⟩ := Int.eq_ofNat_of_zero_le z0
    have ns : ((szn : Nat) : Int).toNat = szn := Int.toNat_natCast szn
    refine lc_range (lo := 0) (n := ((szn : Nat) : Int).toNat) (fun i H' => ∃ cs : List Nat, H' D = some (.lst ((cs.map one).map V.str)) ∧ cs.length = i ∧ (∀ c ∈ cs, c ∈ ("01r" : Str).cps.toList) ∧ PenC (n + 5 + i) p l cells H' ∧ Kp p H H') ⟨[], upd_same, rfl, fun c hc => by simp at hc, pen7.same zD, fun b o hb nb => zD _ _ (kA b o hb nb)⟩ (fun i H8 hi ⟨cs, hD, hl, hc, pen8, k8⟩ => ?_) (fun H8 ⟨cs, hD, hl, hc, pen8, k8⟩ => ?_)
    · rw [ns] at hi
      walk_at "go"
      refine ⟨rfl, ?_⟩
      try unfold tYes
      refine iteT ?_
      walk_at "go"
      refine ⟨z, rfl, Nat.le_trans (show z.cps.size ≤ 4 by rw [← Array.length_toList]; exact zh) (by decide), ?_⟩
      walk_at "go"
      have hzl : (z.length : Int) = (z.cps.toList.length : Int) := by
        show ((z.cps.size : Nat) : Int) = _
        rw [Array.length_toList]
      refine ⟨p, l, cells, n + 5 + i, _, rfl, pen8, by omega, by omega, by omega, fun d9 H9 g0 g1 pen9 k9 => ?_⟩
      obtain ⟨j, rfl⟩ := Int.eq_ofNat_of_zero_le g0
      obtain ⟨c, ec⟩ : ∃ c, z.cps.toList[j]? = some c := ⟨_, List.getElem?_eq_getElem (by omega)⟩
      refine ⟨z, _, c, rfl, rfl, Nat.le_trans (show z.cps.size ≤ 4 by rw [← Array.length_toList]; exact zh) (by decide), atI_nat ec, ?_⟩
      have hD9 := k9 _ _ hD Dp
      refine ⟨_, hD9, big_of (by rw [List.length_map, List.length_map]; omega), cs ++ [c], ?_, by rw [List.length_append, hl]; rfl, fun x hx => ?_, pen9.put Dp Dl, fun b o hb nb => ?_⟩
      · rw [upd_same, List.map_append, List.map_append]
        rfl
      · rcases List.mem_append.mp hx with hx | hx
        · exact hc x hx
        · rw [List.mem_singleton.mp hx]
          exact zc c (List.mem_of_getElem? ec)
      · have nbD : b ≠ D := fun e => by
          rw [e] at hb
          have := kA _ _ hb (fun y => Dp y)
          rw [nD] at this
          cases this
        rw [upd_ne nbD]
        exact k9 _ _ (k8 _ _ hb nb) nb
    · walk_at "go"
      refine ⟨Str.empty, D, cs.map one, rfl, rfl, .inl (SqL.of hD), ?_, ?_⟩
      · rw [sum_ones]
        have : (Str.empty : Str).length = 0 := rfl
        rw [this]
        omega
      · have ex : (Txt.join Str.empty (cs.map one)).cps.toList = cs := by rw [TL.join_eq, join_ones]
        refine q _ H8 ⟨?_, fun c h => hc c (ex ▸ h)⟩ (pen8.mono (by omega)) k8
        rw [← Array.length_toList, ex]
        omega
end
/-! ### keeping -/
def Al2 {α β : Type} (R : α → β → Prop) : List α → List β → Prop
  | [], [] => True
  | a :: as, b :: bs => R a b ∧ Al2 R as bs
  | _, _ => False
theorem Al2.imp {α β : Type} {R S : α → β → Prop} (f : ∀ a b, R a b → S a b) : ∀ {as : List α} {bs : List β}, Al2 R as bs → Al2 S as bs
  | [], [], _ => trivial
  | _ :: _, _ :: _, h => ⟨f _ _ h.1, Al2.imp f h.2⟩
  | [], _ :: _, h => h.elim
  | _ :: _, [], h => h.elim
theorem Al2.snoc {α β : Type} {R : α → β → Prop} {a : α} {b : β} (r : R a b) : ∀ {as : List α} {bs : List β}, Al2 R as bs → Al2 R (as ++ [a]) (bs ++ [b])
  | [], [], _ => ⟨r, trivial⟩
  | _ :: _, _ :: _, h => ⟨h.1, Al2.snoc r h.2⟩
  | [], _ :: _, h => h.elim
  | _ :: _, [], h => h.elim
theorem Al2.len {α β : Type} {R : α → β → Prop} : ∀ {as : List α} {bs : List β}, Al2 R as bs → as.length = bs.length
  | [], [], _ => rfl
  | _ :: _, _ :: _, h => congrArg (· + 1) (Al2.len h.2)
  | [], _ :: _, h => h.elim
  | _ :: _, [], h => h.elim
theorem KindAt.kpD {C k D : Addr} {xs : List V} {H H' : Hp} {r w d : Str} (h : KindAt C H k r w d) (hD : H D = some (.lst xs)) (c : Kp D H H') : KindAt C H' k r w d := by
  obtain ⟨dx, st, a, b⟩ := h
  refine ⟨dx, st, c _ _ a fun z => ?_, c _ _ b fun z => ?_⟩
  · rw [z, hD] at a
    cases a
  · rw [z, hD] at b
    cases b
theorem RowsAt.kpD {t D : Addr} {xs : List V} {H H' : Hp} {F : List (List Int)} (h : RowsAt H t F) (hD : H D = some (.lst xs)) (c : Kp D H H') : RowsAt H' t F := by
  obtain ⟨ts, g1, g2, g3⟩ := h
  refine ⟨ts, c _ _ g1 fun z => ?_, g2, fun j a r e1 e2 => c _ _ (g3 j a r e1 e2) fun z => ?_⟩
  · rw [z, hD] at g1
    cases g1
  · have := g3 j a r e1 e2
    rw [z, hD] at this
    cases this
theorem EffAt.kpD {C CE e k D : Addr} {xs : List V} {H H' : Hp} {r w d : Str} {F : List (List Int)} (h : EffAt C CE H e k r w d F) (hD : H D = some (.lst xs)) (c : Kp D H H') : EffAt C CE H' e k r w d F := by
  obtain ⟨dx, t, h1, h2, h3⟩ := h
  refine ⟨dx, t, c _ _ h1 fun z => ?_, h2.kpD hD c, h3.kpD hD c⟩
  rw [z, hD] at h1
  cases h1
theorem tup_kpD {t D : Addr} {xs ys : List V} {H H' : Hp} (h : H t = some (.tup ys)) (hD : H D = some (.lst xs)) (c : Kp D H H') : H' t = some (.tup ys) := c _ _ h fun z => by
  rw [z, hD] at h
  cases h
theorem tabs_kpD {T : List (Addr × Str)} {p : Addr} {xs : List V} {H H' : Hp} (hq : H p = some (.lst xs)) (e : Kp p H H') (t : Tabs T H) : Tabs T H' := fun pr hp => by
  obtain ⟨ps, h1, h2, h3⟩ := t pr hp
  refine ⟨ps, e _ _ h1 fun z => ?_, h2, fun pos cv hc => ?_⟩
  · rw [z, hq] at h1
    cases h1
  · obtain ⟨c, e1, e2⟩ := h3 pos cv hc
    refine ⟨c, e1, e _ _ e2 fun z => ?_⟩
    rw [z, hq] at e2
    unfold CodeO at e2
    cases e2
theorem PenC.atp {n : Nat} {p l : Addr} {cells : List Int} {H : Hp} (h : PenC n p l cells H) : ∃ (i j : Int), H p = some (.lst [.ref l, .int i, .int j]) := by
  obtain ⟨_, _, a, r, _, z⟩ := h
  exact ⟨_, _, z⟩
abbrev sgX (a p t k D S Kt e1 e2 e3 : Addr) (qt : Bool) (x13 x14 x15 x18 x19 : Option V) : L2.St := [some (.ref a), some (.ref p), some (.ref t), some (.ref k), some (.ref D), none, some (.bl qt), some (.ref S), none, some (.ref Kt), some (.ref e1), some (.ref e2), some (.ref e3), x13, x14, x15, none, none, x18, x19, none]
/-- an effect told, somewhere -/
def Eff (C CE : Addr) (r w d : Str) (H : Hp) (e : Addr) (F : List (List Int)) : Prop := ∃ k, EffAt C CE H e k r w d F
theorem depth_rows (F : List (List Int)) : (rowsD F).depth ≤ 2 := by
  have h2 : ∀ ns : List Int, PyData.depthAll (ns.map PyData.int) = 0 := fun ns => by
    induction ns with
    | nil => simp [PyData.depthAll]
    | cons a as ih => simp only [List.map_cons, PyData.depthAll, PyData.depth, ih, Nat.max_self]
  have g2 : ∀ F : List (List Int), PyData.depthAll (F.map fun r => .tuple (r.map PyData.int)) ≤ 1 := fun F => by
    induction F with
    | nil => simp [PyData.depthAll]
    | cons a as ih =>
      simp only [List.map_cons, PyData.depthAll, PyData.depth, h2]
      omega
  have := g2 F
  simp only [rowsD, PyData.depth]
  omega
theorem sh_rows3 (F G J : List (List Int)) : SeqAt.shaped (.list [rowsD F, rowsD G, rowsD J]) = true := by
  have a := SeqAt.canLay_of_shaped (sh_rows F)
  have b := SeqAt.canLay_of_shaped (sh_rows G)
  have c := SeqAt.canLay_of_shaped (sh_rows J)
  have x := depth_rows F
  have y := depth_rows G
  have z := depth_rows J
  unfold SeqAt.shaped
  rw [Bool.and_eq_true]
  refine ⟨by simp only [PyData.canLay0, PyData.canLayAll0, a, b, c, Bool.and_self], decide_eq_true ?_⟩
  simp only [PyData.depth, PyData.depthAll]
  omega
theorem eqv_rows3 (F G J : List (List Int)) : PyData.eqv (.list [rowsD F, rowsD G, rowsD J]) (.list [rowsD F, rowsD G, rowsD J]) = true := by
  simp [PyData.eqv, PyData.eqvAll, eqv_rows]
def PairOk (C CE : Addr) (r w d : Str) (H : Hp) (y : V) : Prop := ∃ (q ea eb ka kb : Addr) (F F' : List (List Int)), y = .ref q ∧ H q = some (.tup [.ref ea, .ref eb]) ∧ EffAt C CE H ea ka r w d F ∧ EffAt C CE H eb kb r w d F' ∧ Rw (stN w).length F ∧ Rw (stN w).length F' ∧ NR F ∧ NR F'
theorem PairOk.same {C CE : Addr} {r w d : Str} {H H' : Hp} {y : V} (h : PairOk C CE r w d H y) (s : Same H H') : PairOk C CE r w d H' y := by
  obtain ⟨q, ea, eb, ka, kb, F, F', e, a, b, c, x⟩ := h
  exact ⟨q, ea, eb, ka, kb, F, F', e, s _ _ a, b.sm s, c.sm s, x⟩
theorem dp_strs3 {K : PySem.W.Frag} {H : Hp} {t : Addr} {r w d : Str} (h : H t = some (.tup [.str r, .str w, .str d])) : Dp K H (.ref t) (.tuple [.str r, .str w, .str d]) := .tup (SqT.of h) (.cons (.str _) (.cons (.str _) (.cons (.str _) .nil)))
theorem sh_strs3 : ∀ r ∈ RD, ∀ w ∈ WR, ∀ d ∈ DV, SeqAt.shaped (.tuple [.str r, .str w, .str d]) = true := by decide +kernel
theorem eqv_strs3 (r w d r' w' d' : Str) : PyData.eqv (.tuple [.str r, .str w, .str d]) (.tuple [.str r', .str w', .str d']) = decide (r = r' ∧ w = w' ∧ d = d') := by
  have h : ∀ a b : Str, (a == b) = decide (a = b) := fun a b => by by_cases e : a = b <;> simp [e]
  simp [PyData.eqv, PyData.eqvAll, Bool.decide_and, h]
section
variable {P : Program} {w : World} {K : PySem.W.Frag} {mg : Str → Option Value} {base : Heap} {C CE aW aI : Addr} {mc mcE : Value}
theorem ok_law {fl Pt fT fOf fW fMU fOR fE fEE pOf : Addr} {oc kV doc pm ct cdl : Value} {an od : Option Addr} {osl : Array (Option Value)} {fdI fdOf fdW fdMU fdOR fdE fdEE : FuncData}
    (lk : K.lookup fl = some ⟨oc, od, .func (PySem.W.fnOf "law" "law" (defArgs s_law) (defBody s_law) (defScope s_law) .none kV doc pm an cdl ct), osl⟩) (code : PySem.W.codeIn K cdl "law" = true) (T : KT K w mg C aW aI mc) (TE : ET K mg CE) (B : B1 mg) (nfE : PySem.W.notFirst K CE (.ref CE) = true)
    (isG : PySem.W.specialIn K (.builtin "object.__class__") "__get__" = some (some (.builtin "getset_descriptor.__get__"))) (isT : PySem.W.takesIn K (.builtin "object.__class__") = some true)
    (c_law_pen : Cal P w K mg base 1 "_law_pen" (spPen K)) (c_law_draw : Cal P w K mg base 1 "_law_draw" spDraw) (c_law_words : Cal P w K mg base 2 "_law_words" spWords) (c_law_letters : Cal P w K mg base 2 "_law_letters" spLetsS)
    (c_law_rows : Cal P w K mg base 4 "_law_rows" spRows) (c_law_told : Cal P w K mg base 2 "_law_told" (spTold C CE)) (c_law_compared : Cal P w K mg base 6 "_law_compared" (spCmp C CE)) (c_law_mixed_right : Cal P w K mg base 7 "_law_mixed_right" (spMix C CE)) (c_law_unlike_right : Cal P w K mg base 7 "_law_unlike_right" (spUL C CE Pt))
    (MK : Mk K C fT) (FIN : Gd P w K mg base CX0 1 fT fdI ["self", "reading", "writing", "device"] (spInit C)) (bIN : Binds K fdI ["self", "reading", "writing", "device"] [])
    (CR : ClX.CRead K CE mcE) (CM : ClX.CMet K CE mcE "of" pOf fOf) (FOF : Gd P w K mg base CX0 4 fOf fdOf ["cls", "kind", "letters", "quiet"] (spOf C CE)) (kbM : KBn K fdOf ["cls", "kind", "letters", "quiet"] 3 ["quiet"] (fun us ws => us ++ ws) (fun us ws => us ++ ws))
    (hcE : PySem.W.selfFirst K CE = true) (muI : PySem.W.findIn K (.ref CE) "__mul__" = some (some (.ref fMU))) (muF : PySem.W.isFn K (.ref fMU) = true) (FMU : Gd P w K mg base CX0 4 fMU fdMU ["self", "other"] (spMul C CE)) (bMU : Binds K fdMU ["self", "other"] [])
    (orI : PySem.W.findIn K (.ref CE) "__or__" = some (some (.ref fOR))) (orF : PySem.W.isFn K (.ref fOR) = true) (FOR : Gd P w K mg base CX0 4 fOR fdOR ["self", "other"] (spOr C CE)) (bOR : Binds K fdOR ["self", "other"] [])
    (metW : Met P w K mg base 4 CE "within" fW (spWin C CE))
    (FEE : Gd P w K mg base CX0 3 fEE fdEE ["self", "other"] (spEE C CE)) (bEE : Binds K fdEE ["self", "other"] []) (eeI : PySem.W.findIn K (.ref CE) "__eq__" = some (some (.ref fEE))) (eeF : PySem.W.isFn K (.ref fEE) = true) (neE : PySem.W.findIn K (.ref CE) "__ne__" = some (some (.builtin "object.__ne__"))) :
    Gd P w K mg base CX0 9 fl (PySem.W.fnOf "law" "law" (defArgs s_law) (defBody s_law) (defScope s_law) .none kV doc pm an cdl ct) ["_law_script"] (spLaw K Pt) := by
  refine gd_of (k := 8) lk code sc_law (fun vs H Q E h => ?_) (fun A outer s H vs Q E rm gd h => ?_)
  · obtain ⟨a, ns, rfl, _⟩ := h
    rfl
  · obtain ⟨a, ns, rfl, hS, hlen, hP, q⟩ := h
    suffices h : ∃ t, PSs (cxOf CX0 P w K mg base ["_law_script", "_law_pen_here", "_law_words_here", "_law_kind", "_law_texts", "_law_turn", "_law_is_quiet", "_law_some", "_law_letters_here", "_law_kept", "_law_one", "_law_two", "_law_three", "_law_none", "_law_mixed", "_law_pairs", "_law_first", "_law_second", "_law_others", "_law_other", "_law_effect"] "law" (defScope s_law) fl cdl A outer s H E).nox (defBody s_law) t ∧ t { nx := fun _ H' => Q .non H', rt := Q } (start ["_law_script", "_law_pen_here", "_law_words_here", "_law_kind", "_law_texts", "_law_turn", "_law_is_quiet", "_law_some", "_law_letters_here", "_law_kept", "_law_one", "_law_two", "_law_three", "_law_none", "_law_mixed", "_law_pairs", "_law_first", "_law_second", "_law_others", "_law_other", "_law_effect"] [.ref a]) H by
      obtain ⟨t, h1, h2⟩ := h
      exact ⟨t, h1.nox, h2⟩
    have clE := TE.cl
    have nK := TE.nK
    refine ⟨_, (pss_cons (ps_set (i := 1) sc_law.nd rfl (Or.inr rfl) (pc c_law_pen rm (by decide) gd rfl (pa_cons (pv 0) pa_nil)))
    (pss_cons (ps_set (i := 2) sc_law.nd rfl (Or.inr rfl) (pc c_law_words rm (by decide) gd rfl (pa_cons (pv 1) pa_nil)))
    (pss_cons (ps_set (i := 3) sc_law.nd rfl (Or.inl rfl) (pe_gmake MK FIN (rm.mono (by decide)) gd rfl T.g_Kind bIN .nil pass0 (pa_cons (pe_ix ix_tup (pv 2) pe_int (fun _ _ => rfl)) (pa_cons (pe_ix ix_tup (pv 2) pe_int (fun _ _ => rfl)) (pa_cons (pe_ix ix_tup (pv 2) pe_int (fun _ _ => rfl)) pa_nil)))))
    (pss_cons (ps_setLc (i := 4) (own := [("_law_turn", 5)]) (g := (gName 5)) (by rfl) sc_law.nd rfl rfl (sw_true rfl rfl rfl (by decide +kernel)) (pi_range1 rfl B.g_range (pa_cons pe_int pa_nil)) (blkOk_by (own := [("_law_turn", 5)]) (N := ["_law_script", "_law_pen_here", "_law_words_here", "_law_kind", "_law_texts", "_law_turn", "_law_is_quiet", "_law_some", "_law_letters_here", "_law_kept", "_law_one", "_law_two", "_law_three", "_law_none", "_law_mixed", "_law_pairs", "_law_first", "_law_second", "_law_others", "_law_other", "_law_effect"]) (sc := defScope s_law) (by decide +kernel)) (fun _ _ _ _ _ => (pg_name (i := 5) sc_law.nd rfl (Or.inl rfl))) (fun _ _ _ _ _ => pts_nil) (fun _ _ _ _ _ => (pc c_law_letters rm (by decide) gd rfl (pa_cons (pv 1) (pa_cons pe_int pa_nil)))))
    (pss_cons (ps_set (i := 6) sc_law.nd rfl (Or.inr rfl) (pe_cmpR op_eq (pc c_law_draw rm (by decide) gd rfl (pa_cons (pv 1) (pa_cons pe_int pa_nil))) pe_int (nomark _)))
    (pss_cons (ps_setLc (i := 7) (own := [("_law_letters_here", 8)]) (g := (gName 8)) (by rfl) sc_law.nd rfl rfl (sw_true rfl rfl rfl (by decide +kernel)) (pi_list (pv 4)) (blkOk_by (own := [("_law_letters_here", 8)]) (N := ["_law_script", "_law_pen_here", "_law_words_here", "_law_kind", "_law_texts", "_law_turn", "_law_is_quiet", "_law_some", "_law_letters_here", "_law_kept", "_law_one", "_law_two", "_law_three", "_law_none", "_law_mixed", "_law_pairs", "_law_first", "_law_second", "_law_others", "_law_other", "_law_effect"]) (sc := defScope s_law) (by decide +kernel)) (fun _ _ _ _ _ => (pg_name (i := 8) sc_law.nd rfl (Or.inl rfl))) (fun _ _ _ _ _ => pts_nil) (fun _ _ _ _ _ => (pe_gcmM (pe_glob (v := .ref CE) rfl TE.g_Effect rfl) CR CM FOF (rm.mono (by decide)) gd kbM pass0 (pa_cons (pe_gmake MK FIN (rm.mono (by decide)) gd rfl T.g_Kind bIN .nil pass0 (pa_cons (pe_ix (r := rIxT K) ix_tup (pv 2) pe_int (fun _ _ => rfl)) (pa_cons (pe_ix (r := rIxT K) ix_tup (pv 2) pe_int (fun _ _ => rfl)) (pa_cons (pe_ix (r := rIxT K) ix_tup (pv 2) pe_int (fun _ _ => rfl)) pa_nil)))) (pa_cons (pv 8) pa_nil)) (pk_cons (pv 6) pk_nil))))
    (pss_cons (ps_setLc (i := 9) (own := [("_law_one", 10)]) (g := (gName 10)) (by rfl) sc_law.nd rfl rfl (sw_true rfl rfl rfl (by decide +kernel)) (pi_list (pv 7)) (blkOk_by (own := [("_law_one", 10)]) (N := ["_law_script", "_law_pen_here", "_law_words_here", "_law_kind", "_law_texts", "_law_turn", "_law_is_quiet", "_law_some", "_law_letters_here", "_law_kept", "_law_one", "_law_two", "_law_three", "_law_none", "_law_mixed", "_law_pairs", "_law_first", "_law_second", "_law_others", "_law_other", "_law_effect"]) (sc := defScope s_law) (by decide +kernel)) (fun _ _ _ _ _ => (pg_name (i := 10) sc_law.nd rfl (Or.inl rfl))) (fun _ _ _ _ _ => pts_nil) (fun _ _ _ _ _ => (pc c_law_told rm (by decide) gd rfl (pa_cons (pv 10) (pa_cons (pv 2) pa_nil)))))
    (pss_cons (ps_asg (pv 7) (pg_lst rfl (pgs_cons (pg_name (i := 10) sc_law.nd rfl (Or.inl rfl)) (pgs_cons (pg_name (i := 11) sc_law.nd rfl (Or.inl rfl)) (pgs_cons (pg_name (i := 12) sc_law.nd rfl (Or.inl rfl)) pgs_nil)))))
    (pss_cons (ps_if (pt_cmpR (op_neO FEE (rm.mono (by decide)) gd eeI eeF neE TE.isM bEE pass0) (pe_op (op_OO hcE muI muF FMU (rm.mono (by decide)) gd bMU pass0) (pv 10) (pv 11)) (pe_gcmM (pe_glob (v := .ref CE) rfl TE.g_Effect rfl) CR CM FOF (rm.mono (by decide)) gd kbM pass0 (pa_cons (pv 3) (pa_cons (pe_op op_add_str (pe_ix ix_list (pv 4) pe_int (fun _ _ => rfl)) (pe_ix ix_list (pv 4) pe_int (fun _ _ => rfl))) pa_nil)) (pk_cons (pv 6) pk_nil)) (nomark _))
      (pss_one (ps_ret pe_bl))
      pss_nil)
    (pss_mid (ps_if (PW.pt (pw_or (pt_cmpR (op_neO FEE (rm.mono (by decide)) gd eeI eeF neE TE.isM bEE pass0) (pe_op (op_OO hcE muI muF FMU (rm.mono (by decide)) gd bMU pass0) (pe_op (op_OO hcE muI muF FMU (rm.mono (by decide)) gd bMU pass0) (pv 10) (pv 11)) (pv 12)) (pe_op (op_OO hcE muI muF FMU (rm.mono (by decide)) gd bMU pass0) (pv 10) (pe_op (op_OO hcE muI muF FMU (rm.mono (by decide)) gd bMU pass0) (pv 11) (pv 12))) (nomark _)) (pw_or1 (pt_cmpR (op_neO FEE (rm.mono (by decide)) gd eeI eeF neE TE.isM bEE pass0) (pe_op (op_OO hcE muI muF FMU (rm.mono (by decide)) gd bMU pass0) (pv 10) (pe_op (op_OO hcE orI orF FOR (rm.mono (by decide)) gd bOR pass0) (pv 11) (pv 12))) (pe_op (op_OO hcE orI orF FOR (rm.mono (by decide)) gd bOR pass0) (pe_op (op_OO hcE muI muF FMU (rm.mono (by decide)) gd bMU pass0) (pv 10) (pv 11)) (pe_op (op_OO hcE muI muF FMU (rm.mono (by decide)) gd bMU pass0) (pv 10) (pv 12))) (nomark _)))))
      (pss_one (ps_ret pe_bl))
      pss_nil)
    (pss_cons (ps_if (pt_cmpR (op_neO FEE (rm.mono (by decide)) gd eeI eeF neE TE.isM bEE pass0) (pe_op (op_OO hcE muI muF FMU (rm.mono (by decide)) gd bMU pass0) (pe_op (op_OO hcE muI muF FMU (rm.mono (by decide)) gd bMU pass0) (pv 10) (pv 11)) (pv 12)) (pe_gcmM (pe_glob (v := .ref CE) rfl TE.g_Effect rfl) CR CM FOF (rm.mono (by decide)) gd kbM pass0 (pa_cons (pv 3) (pa_cons (pe_op op_add_str (pe_op op_add_str (pe_ix ix_list (pv 4) pe_int (fun _ _ => rfl)) (pe_ix ix_list (pv 4) pe_int (fun _ _ => rfl))) (pe_ix ix_list (pv 4) pe_int (fun _ _ => rfl))) pa_nil)) (pk_cons (pv 6) pk_nil)) (nomark _))
      (pss_one (ps_ret pe_bl))
      pss_nil)
    (pss_cons (ps_set (i := 13) sc_law.nd rfl (Or.inl rfl) (pe_gcmM (pe_glob (v := .ref CE) rfl TE.g_Effect rfl) CR CM FOF (rm.mono (by decide)) gd kbM pass0 (pa_cons (pv 3) (pa_cons pe_str pa_nil)) (pk_cons (pv 6) pk_nil)))
    (pss_mid (ps_if (PW.pt (pw_or (pt_cmpR (op_neO FEE (rm.mono (by decide)) gd eeI eeF neE TE.isM bEE pass0) (pe_op (op_OO hcE muI muF FMU (rm.mono (by decide)) gd bMU pass0) (pv 13) (pv 10)) (pv 10) (nomark _)) (pw_or (pt_cmpR (op_neO FEE (rm.mono (by decide)) gd eeI eeF neE TE.isM bEE pass0) (pe_op (op_OO hcE muI muF FMU (rm.mono (by decide)) gd bMU pass0) (pv 10) (pv 13)) (pv 10) (nomark _)) (pw_or1 (pt_not (pt_val (KG.pm metW TE.cl rm (by decide) gd (pe_gcmM (pe_glob (v := .ref CE) rfl TE.g_Effect rfl) CR CM FOF (rm.mono (by decide)) gd kbM pass0 (pa_cons (pv 3) (pa_cons (pe_ix ix_list (pv 4) pe_int (fun _ _ => rfl)) pa_nil)) (pk_cons pe_bl pk_nil)) (pa_cons (pv 10) pa_nil))))))))
      (pss_one (ps_ret pe_bl))
      pss_nil)
    (pss_cons (ps_set (i := 14) sc_law.nd rfl (Or.inl rfl) (pe_gcmM (pe_glob (v := .ref CE) rfl TE.g_Effect rfl) CR CM FOF (rm.mono (by decide)) gd kbM pass0 (pa_cons (pv 3) (pa_cons (pe_ix ix_list (pv 4) pe_int (fun _ _ => rfl)) pa_nil)) (pk_cons (pe_not (pv 6)) pk_nil)))
    (pss_cons (ps_if (pt_cmpR (op_neD rm.units) (pc c_law_told rm (by decide) gd rfl (pa_cons (pv 14) (pa_cons (pv 2) pa_nil))) (pc c_law_rows rm (by decide) gd rfl (pa_cons (pv 2) (pa_cons (pe_ix ix_list (pv 4) pe_int (fun _ _ => rfl)) (pa_cons (pe_not (pv 6)) pa_nil)))) (nomark _))
      (pss_one (ps_ret pe_bl))
      pss_nil)
    (pss_mid (ps_if (PW.pt (pw_or (pt_not (pt_val (pc c_law_mixed_right rm (by decide) gd rfl (pa_cons (pv 11) (pa_cons (pv 14) (pa_cons (pv 2) pa_nil)))))) (pw_or1 (pt_not (pt_val (pc c_law_mixed_right rm (by decide) gd rfl (pa_cons (pv 10) (pa_cons (pv 14) (pa_cons (pv 2) pa_nil)))))))))
      (pss_one (ps_ret pe_bl))
      pss_nil)
    (pss_cons (ps_set (i := 15) sc_law.nd rfl (Or.inl rfl) (pe_lst (pa_cons (pe_tup (pa_cons (pv 10) (pa_cons (pv 11) pa_nil))) (pa_cons (pe_tup (pa_cons (pv 11) (pa_cons (pv 12) pa_nil))) (pa_cons (pe_tup (pa_cons (pv 10) (pa_cons (pv 10) pa_nil))) (pa_cons (pe_tup (pa_cons (pe_op (op_OO hcE muI muF FMU (rm.mono (by decide)) gd bMU pass0) (pv 10) (pv 11)) (pa_cons (pe_op (op_OO hcE muI muF FMU (rm.mono (by decide)) gd bMU pass0) (pv 11) (pv 10)) pa_nil))) (pa_cons (pe_tup (pa_cons (pv 10) (pa_cons (pe_op (op_OO hcE orI orF FOR (rm.mono (by decide)) gd bOR pass0) (pv 10) (pv 12)) pa_nil))) (pa_cons (pe_tup (pa_cons (pv 13) (pa_cons (pv 10) pa_nil))) pa_nil))))))))
    (pss_cons (ps_if (pt_cmpR (op_neD rm.units) (pe_lc (own := [("_law_first", 16), ("_law_second", 17)]) (g := (gTup K 2 (gCons (gName 16) (gCons (gName 17) gNil)))) (by rfl) sc_law.nd (pi_list (pv 15)) (blkOk_by (own := [("_law_first", 16), ("_law_second", 17)]) (N := ["_law_script", "_law_pen_here", "_law_words_here", "_law_kind", "_law_texts", "_law_turn", "_law_is_quiet", "_law_some", "_law_letters_here", "_law_kept", "_law_one", "_law_two", "_law_three", "_law_none", "_law_mixed", "_law_pairs", "_law_first", "_law_second", "_law_others", "_law_other", "_law_effect"]) (sc := defScope s_law) (by decide +kernel)) (fun _ _ _ _ _ => (pg_tup rfl (pgs_cons (pg_name (i := 16) sc_law.nd rfl (Or.inl rfl)) (pgs_cons (pg_name (i := 17) sc_law.nd rfl (Or.inl rfl)) pgs_nil)))) (fun _ _ _ _ _ => (pts_one (pt_not (pt_val (pc c_law_compared rm (by decide) gd rfl (pa_cons (pv 16) (pa_cons (pv 17) (pa_cons (pv 2) pa_nil)))))))) (fun _ _ _ _ _ => pe_int)) (pe_lst pa_nil) (nomark _))
      (pss_one (ps_ret pe_bl))
      pss_nil)
    (pss_cons (ps_set (i := 18) sc_law.nd rfl (Or.inl rfl) (pc c_law_words rm (by decide) gd rfl (pa_cons (pv 1) pa_nil)))
    (pss_mid (ps_if (pt_cmpR (op_neD rm.units) (pv 18) (pv 2) (nomark _))
      (pss_cons (ps_set (i := 19) sc_law.nd rfl (Or.inl rfl) (pe_gcmM (pe_glob (v := .ref CE) rfl TE.g_Effect rfl) CR CM FOF (rm.mono (by decide)) gd kbM pass0 (pa_cons (pe_gmake MK FIN (rm.mono (by decide)) gd rfl T.g_Kind bIN .nil pass0 (pa_cons (pe_ix ix_tup (pv 18) pe_int (fun _ _ => rfl)) (pa_cons (pe_ix ix_tup (pv 18) pe_int (fun _ _ => rfl)) (pa_cons (pe_ix ix_tup (pv 18) pe_int (fun _ _ => rfl)) pa_nil)))) (pa_cons (pe_ix ix_list (pv 4) pe_int (fun _ _ => rfl)) pa_nil)) (pk_cons (pv 6) pk_nil)))
      (pss_one (ps_if (pt_not (pt_val (pc c_law_unlike_right rm (by decide) gd rfl (pa_cons (pv 10) (pa_cons (pv 19) pa_nil)))))
        (pss_one (ps_ret pe_bl))
        pss_nil)))
      pss_nil)
    (pss_one (ps_ret (pe_cmpR (op_eqD rm.units) (pe_lc (own := [("_law_effect", 20)]) (g := (gName 20)) (by rfl) sc_law.nd (pi_list (pv 7)) (blkOk_by (own := [("_law_effect", 20)]) (N := ["_law_script", "_law_pen_here", "_law_words_here", "_law_kind", "_law_texts", "_law_turn", "_law_is_quiet", "_law_some", "_law_letters_here", "_law_kept", "_law_one", "_law_two", "_law_three", "_law_none", "_law_mixed", "_law_pairs", "_law_first", "_law_second", "_law_others", "_law_other", "_law_effect"]) (sc := defScope s_law) (by decide +kernel)) (fun _ _ _ _ _ => (pg_name (i := 20) sc_law.nd rfl (Or.inl rfl))) (fun _ _ _ _ _ => pts_nil) (fun _ _ _ _ _ => (pc c_law_told rm (by decide) gd rfl (pa_cons (pv 20) (pa_cons (pv 2) pa_nil))))) (pv 9) (nomark _)))))))))))))))))))))))), ?_⟩
    walk_at "go"
    refine ⟨a, ns, rfl, hS, hlen, fun p l cells H1 np pen1 s1 => ?_⟩
    have tb1 : Tabs (TU Pt) H1 := Tabs.ext (fun pr hp => by
      rw [List.mem_singleton.mp hp]; exact TabS.nil hP) s1
    walk_at "go"
    refine ⟨p, l, cells, 0, rfl, pen1, by omega, fun t r wr d H3 hr hw hd nt ht pen3 k3 => ?_⟩
    have kd : Kd r wr d := ⟨hr, hw, hd⟩
    walk_at "go"
    refine make fun k dk H4 n4 h4 s4 => ?_
    refine ⟨k, dk, r, wr, d, rfl, h4, hr, hw, hd, fun H5 hk5 e5 => ⟨rfl, ?_⟩⟩
    have s5 : Same H3 H5 := fun b o e => e5 b o (s4 b o e) (ne_of_none e n4)
    have pen5 := pen3.same s5
    obtain ⟨i1, j1, hp1⟩ := pen1.atp
    have tb5 := (tabs_kpD hp1 k3 tb1).ext s5
    have ht5 := s5 _ _ ht
    walk_at "go"
    refine over_r (by decide) (by decide) ?_
    intro D nD
    have zD : Same H5 (upd H5 D (.lst [])) := fun b u e => by
      rw [upd_ne (ne_of_none e nD)]
      exact e
    obtain ⟨Dp, Dl⟩ := pen5.ne nD
    refine lc_range (lo := 0) (n := 3) (fun i H' => ∃ xs : List Str, H' D = some (.lst (xs.map V.str)) ∧ xs.length = i ∧ (∀ x ∈ xs, LetS x) ∧ PenC (3 + 45 * i) p l cells H' ∧ Kp p H5 H') ⟨[], upd_same, rfl, fun c hc => by simp at hc, pen5.same zD, fun b o hb nb => zD _ _ hb⟩ (fun i H8 hi ⟨xs, hD, hl, hx, pen8, k8⟩ => ?_) (fun H8 ⟨xs, hD, hl, hx, pen8, k8⟩ => ?_)
    · walk_at "go"
      refine ⟨rfl, ?_⟩
      try unfold tYes
      refine iteT ?_
      walk_at "go"
      refine ⟨p, l, cells, 3 + 45 * i, 12, rfl, pen8, by omega, by decide, by decide, fun x H9 lx pen9 k9 => ?_⟩
      refine ⟨_, k9 _ _ hD Dp, by rw [List.length_map]; exact Nat.lt_of_lt_of_le (show xs.length < 3 by omega) (by decide), xs ++ [x], ?_, by rw [List.length_append, hl]; rfl, fun y hy => ?_, (pen9.put Dp Dl).mono (by omega), fun b o hb nb => ?_⟩
      · rw [upd_same, List.map_append]
        rfl
      · rcases List.mem_append.mp hy with hy | hy
        · exact hx y hy
        · rw [List.mem_singleton.mp hy]
          exact lx
      · have nbD : b ≠ D := fun e => by
          rw [e, nD] at hb
          cases hb
        rw [upd_ne nbD]
        exact k9 _ _ (k8 _ _ hb nb) nb
    obtain ⟨x0, x1, x2, rfl⟩ : ∃ x0 x1 x2, xs = [x0, x1, x2] := by
      match xs, hl with
      | [x0, x1, x2], _ => exact ⟨_, _, _, rfl⟩
    have l0 := hx x0 (by simp)
    have l1 := hx x1 (by simp)
    have l2 := hx x2 (by simp)
    obtain ⟨i5, j5, hp5⟩ := pen5.atp
    have hk8 := hk5.kpD hp5 k8
    have tb8 := tabs_kpD hp5 k8 tb5
    have ht8 := tup_kpD ht5 hp5 k8
    walk_at "go"
    refine ⟨p, l, cells, 3 + 45 * 3, 3, rfl, pen8, by omega, by decide, by decide, fun dq H9 q0 q1 pen9 k9 => ?_⟩
    obtain ⟨i8, j8, hp8⟩ := pen8.atp
    have hk9 := hk8.kpD hp8 k9
    have tb9 := tabs_kpD hp8 k9 tb8
    have ht9 := tup_kpD ht8 hp8 k9
    have hD9 : H9 D = some (.lst [.str x0, .str x1, .str x2]) := k9 _ _ hD Dp
    clear hk5 hk8 tb5 tb8 ht5 ht8 hD k8 k9 hp5 hp8 pen5 pen8 tb1 pen1 k3 pen3
    walk_at "go"
    generalize decide (V.int dq = V.int 0) = qt
    refine over_l (SqL.of hD9) ?_
    intro S nS
    have zS : Same H9 (upd H9 S (.lst [])) := fun b u e => by
      rw [upd_ne (ne_of_none e nS)]
      exact e
    refine lc_list (K := K) (a := D) (xs := [x0, x1, x2].map V.str) (fun i H' => ∃ es : List Addr, H' S = some (.lst (es.map V.ref)) ∧ Al2 (fun e x => Eff C CE r wr d H' e (ofR qt r wr d x.cps.toList)) es ([x0, x1, x2].take i) ∧ Same H9 H') ⟨[], upd_same, trivial, zS⟩ (fun i H' _ ⟨_, _, _, s⟩ => SqL.of (s _ _ hD9)) (fun i y H10 hy ⟨es, hS1, al, s10⟩ => ?_) (fun H10 ⟨es, hS1, al, s10⟩ => ?_)
    · rw [List.getElem?_map] at hy
      obtain ⟨x, ex, rfl⟩ := Option.map_eq_some_iff.mp hy
      have lx := hx x (List.mem_of_getElem? ex)
      have i3 := (List.getElem?_eq_some_iff.mp ex).1
      walk_at "go"
      refine ⟨rfl, ?_⟩
      try unfold tYes
      refine iteT ?_
      unfold tCmM
      walk_at "go"
      refine ⟨rfl, ?_⟩
      have ht10 := s10 _ _ ht9
      walk_at "go"
      refine make fun k2 dk2 H11 n11 h11 s11 => ?_
      refine ⟨k2, dk2, r, wr, d, rfl, h11, hr, hw, hd, fun H12 hk12 e12 => ⟨rfl, ?_⟩⟩
      have s12 : Same H10 H12 := fun b o e => e12 b o (s11 b o e) (ne_of_none e n11)
      walk_at "go"
      refine ⟨rfl, rfl, k2, x, r, wr, d, qt, rfl, lx.lets, hk12, kd, fun e H13 n13 he13 s13 => ?_⟩
      have s1013 := s12.trans s13
      have hS13 := s1013 _ _ hS1
      have kS : Kp S H13 (upd H13 S (.lst (es.map V.ref ++ [.ref e]))) := fun b o z nb => by
        rw [upd_ne nb]
        exact z
      refine ⟨_, hS13, ?_, es ++ [e], ?_, ?_, fun b o z => ?_⟩
      · have := al.len
        rw [List.length_take] at this
        rw [List.length_map]
        exact Nat.lt_of_lt_of_le (show es.length < 4 by omega) (by decide)
      · rw [upd_same, List.map_append]
        rfl
      · rw [List.take_add_one, ex]
        refine Al2.snoc ⟨k2, he13.kpD hS13 kS⟩ (al.imp fun e' x' ⟨k', z⟩ => ⟨k', (z.sm s1013).kpD hS13 kS⟩)
      · have nb : b ≠ S := fun e => by
          rw [e, nS] at z
          cases z
        rw [upd_ne nb]
        exact s1013 _ _ (s10 _ _ z)
    obtain ⟨e1, e2, e3, rfl, ⟨k1, he1⟩, ⟨k2, he2⟩, ⟨k3, he3⟩⟩ : ∃ e1 e2 e3, es = [e1, e2, e3] ∧ Eff C CE r wr d H10 e1 (ofR qt r wr d x0.cps.toList) ∧ Eff C CE r wr d H10 e2 (ofR qt r wr d x1.cps.toList) ∧ Eff C CE r wr d H10 e3 (ofR qt r wr d x2.cps.toList) := by
      match es, al with
      | [a, b, c], ⟨h1, h2, h3, _⟩ => exact ⟨a, b, c, rfl, h1, h2, h3⟩
    have hS10 : H10 S = some (.lst [.ref e1, .ref e2, .ref e3]) := hS1
    have hk10 := hk9.sm s10
    have tb10 := tb9.ext s10
    have ht10 := s10 _ _ ht9
    have hD10 := s10 _ _ hD9
    have pen10 := pen9.same s10
    have n4w := stN_len wr
    have rwOf : ∀ {q : Bool} {x : Str}, (∀ c ∈ x.cps.toList, c ∈ ("01r" : Str).cps.toList) → Rw (stN wr).length (ofR q r wr d x.cps.toList) := fun hc => ofR_rw kd _ hc _ (betw_rw kd.2.1 kd.2.2)
    have nrOf : ∀ {q : Bool} {x : Str}, NR (ofR q r wr d x.cps.toList) := ofR_nr kd.2.1 kd.2.2 _
    clear hk9 tb9 ht9 hD9 pen9 hS1 s10 al nS zS
    have r1 := rwOf (q := qt) l0.2
    have r2 := rwOf (q := qt) l1.2
    have r3 := rwOf (q := qt) l2.2
    walk_at "go"
    refine over_l (SqL.of hS10) ?_
    intro Kt nKt
    have zK : Same H10 (upd H10 Kt (.lst [])) := fun b u e => by
      rw [upd_ne (ne_of_none e nKt)]
      exact e
    have ef3 : ∀ {i : Nat} {e : Addr}, [e1, e2, e3][i]? = some e → ∃ x k', [x0, x1, x2][i]? = some x ∧ EffAt C CE H10 e k' r wr d (ofR qt r wr d x.cps.toList) := fun {i e} h => by
      match i, h with
      | 0, h => cases h; exact ⟨x0, k1, rfl, he1⟩
      | 1, h => cases h; exact ⟨x1, k2, rfl, he2⟩
      | 2, h => cases h; exact ⟨x2, k3, rfl, he3⟩
    refine lc_list (K := K) (a := S) (xs := [e1, e2, e3].map V.ref) (fun i H' => ∃ ts : List Addr, H' Kt = some (.lst (ts.map V.ref)) ∧ Al2 (fun t x => RowsAt H' t (ofR qt r wr d x.cps.toList)) ts ([x0, x1, x2].take i) ∧ Same H10 H') ⟨[], upd_same, trivial, zK⟩ (fun i H' _ ⟨_, _, _, s⟩ => SqL.of (s _ _ hS10)) (fun i y H11 hy ⟨ts, hK1, al, s11⟩ => ?_) (fun H11 ⟨ts, hK1, al, s11⟩ => ?_)
    · rw [List.getElem?_map] at hy
      obtain ⟨e, ee, rfl⟩ := Option.map_eq_some_iff.mp hy
      obtain ⟨x, k', ex, he⟩ := ef3 ee
      have lx := hx x (List.mem_of_getElem? ex)
      have i3 := (List.getElem?_eq_some_iff.mp ex).1
      walk_at "go"
      refine ⟨rfl, ?_⟩
      try unfold tYes
      refine iteT ?_
      walk_at "go"
      refine ⟨e, k', t, r, wr, d, _, rfl, s11 _ _ ht10, he.sm s11, (rwOf lx.2).len, fun a H12 n12 h12 s12 => ?_⟩
      have hK12 := s12 _ _ hK1
      have kK : Kp Kt H12 (upd H12 Kt (.lst (ts.map V.ref ++ [.ref a]))) := fun b o z nb => by
        rw [upd_ne nb]
        exact z
      refine ⟨_, hK12, ?_, ts ++ [a], ?_, ?_, fun b o z => ?_⟩
      · have := al.len
        rw [List.length_take] at this
        rw [List.length_map]
        exact Nat.lt_of_lt_of_le (show ts.length < 4 by omega) (by decide)
      · rw [upd_same, List.map_append]
        rfl
      · rw [List.take_add_one, ex]
        refine Al2.snoc (R := fun t x => RowsAt (upd H12 Kt (.lst (ts.map V.ref ++ [.ref a]))) t (ofR qt r wr d x.cps.toList)) (h12.kpD hK12 kK) (al.imp fun e' x' z => (z.same s12).kpD hK12 kK)
      · have nb : b ≠ Kt := fun e => by
          rw [e, nKt] at z
          cases z
        rw [upd_ne nb]
        exact s12 _ _ (s11 _ _ z)
    obtain ⟨t1, t2, t3, rfl, g1, g2, g3⟩ : ∃ t1 t2 t3, ts = [t1, t2, t3] ∧ RowsAt H11 t1 (ofR qt r wr d x0.cps.toList) ∧ RowsAt H11 t2 (ofR qt r wr d x1.cps.toList) ∧ RowsAt H11 t3 (ofR qt r wr d x2.cps.toList) := by
      match ts, al with
      | [a, b, c], ⟨h1, h2, h3, _⟩ => exact ⟨a, b, c, rfl, h1, h2, h3⟩
    have hK11 : H11 Kt = some (.lst [.ref t1, .ref t2, .ref t3]) := hK1
    have hS11 := s11 _ _ hS10
    have hk11 := hk10.sm s11
    have tb11 := tb10.ext s11
    have ht11 := s11 _ _ ht10
    have hD11 := s11 _ _ hD10
    have pen11 := pen10.same s11
    have he1 := he1.sm s11
    have he2 := he2.sm s11
    have he3 := he3.sm s11
    clear hk10 tb10 ht10 hD10 pen10 hK1 al nKt zK ef3 hS10
    walk_at "go"
    refine ⟨S, _, rfl, SqL.of hS11, rfl, _, _, rfl, _, _, rfl, _, _, rfl, rfl, ?_⟩
    have insE : ∀ {G : Hp} {b kb : Addr} {F : List (List Int)}, EffAt C CE G b kb r wr d F → ∃ dx t', G b = some (.ins CE dx (ef kb t')) ∧ TyX K G (.ref b) (.ref CE) := fun h => by
      obtain ⟨dx, t', g, _⟩ := id h
      exact ⟨dx, t', g, .base (.ins g clE TE.isC isG isT TE.isM)⟩
    have mul : ∀ {G : Hp} {a b ka kb : Addr} {F F' : List (List Int)} {Q : VK}, EffAt C CE G a ka r wr d F → EffAt C CE G b kb r wr d F' → Rw (stN wr).length F → Rw (stN wr).length F' → (∀ e2 G', EffAt C CE G' e2 ka r wr d (joinR F F') → Same G G' → Q (.ref e2) G') → rOO CE (spMul C CE) E0 (.ref a) (.ref b) G Q := fun {G a b ka kb F F' Q} ha hb ra rb q => by
      obtain ⟨dx, tx, g, _⟩ := insE ha
      obtain ⟨dy, ty, g', _⟩ := insE hb
      exact ⟨a, b, dx, dy, _, _, rfl, rfl, g, g', a, b, ka, kb, r, wr, d, F, F', rfl, ha, hb, ra, rb, fun e2 G' _ he s => q e2 G' he s⟩
    have uni : ∀ {G : Hp} {a b ka kb : Addr} {F F' : List (List Int)} {Q : VK}, EffAt C CE G a ka r wr d F → EffAt C CE G b kb r wr d F' → Rw (stN wr).length F → Rw (stN wr).length F' → (∀ e2 G', EffAt C CE G' e2 ka r wr d (uniR F F') → Same G G' → Q (.ref e2) G') → rOO CE (spOr C CE) E0 (.ref a) (.ref b) G Q := fun {G a b ka kb F F' Q} ha hb ra rb q => by
      obtain ⟨dx, tx, g, _⟩ := insE ha
      obtain ⟨dy, ty, g', _⟩ := insE hb
      exact ⟨a, b, dx, dy, _, _, rfl, rfl, g, g', a, b, ka, kb, r, wr, d, F, F', rfl, ha, hb, ra, rb, fun e2 G' _ he s => q e2 G' he s⟩
    have neq : ∀ {G : Hp} {a b ka kb : Addr} {F F' : List (List Int)} {Q : VK}, EffAt C CE G a ka r wr d F → EffAt C CE G b kb r wr d F' → F = F' → Q (.bl false) G → rEqO K CE true (spEE C CE) E0 (.ref a) (.ref b) G Q := fun {G a b ka kb F F' Q} ha hb e q => by
      obtain ⟨dx, tx, g, _⟩ := insE ha
      obtain ⟨dy, ty, g', tyb⟩ := insE hb
      refine ⟨a, dx, _, .ref CE, rfl, g, tyb, nfE, a, b, ka, kb, r, wr, d, r, wr, d, F, F', rfl, ha, hb, _, rfl, ?_⟩
      rw [eqv_rows, decide_eq_true e]
      simpa using q
    walk_at "go"
    refine mul he1 he2 r1 r2 fun m12 H12 hm12 s12 => ?_
    unfold tCmM
    walk_at "go"
    refine ⟨rfl, ?_⟩
    have hD12 := s12 _ _ hD11
    walk_at "go"
    have c01 := cat_lets l0 l1
    refine ⟨x0, x1, rfl, rfl, Nat.le_trans (show x0.cps.size + x1.cps.size ≤ 24 from Nat.add_le_add l0.1 l1.1) (by decide), ?_⟩
    walk_at "go"
    refine ⟨rfl, rfl, k, _, r, wr, d, qt, rfl, ⟨Nat.le_trans c01.1 (by decide), c01.2⟩, hk11.sm s12, kd, fun e4 H13 n13 he4 s13 => ?_⟩
    refine neq (hm12.sm s13) he4 (by rw [cat_list]; exact of_app kd _ _ l1.2) ?_
    refine ⟨_, rfl, iteNo rfl ?_⟩
    have s13 : Same H11 H13 := s12.trans s13
    have hS13 := s13 _ _ hS11
    have hk13 := hk11.sm s13
    have tb13 := tb11.ext s13
    have ht13 := s13 _ _ ht11
    have hD13 := s13 _ _ hD11
    have pen13 := pen11.same s13
    have he1 := he1.sm s13
    have he2 := he2.sm s13
    have he3 := he3.sm s13
    have hK13 := s13 _ _ hK11
    have g1 := g1.same s13
    have g2 := g2.same s13
    have g3 := g3.same s13
    clear hS11 hk11 tb11 ht11 hD11 pen11 hK11 hD12 hm12 he4 s12 n13
    refine w_mid (fun σ' H' => σ' = sgX a p t k D S Kt e1 e2 e3 qt none none none none none ∧ Same H13 H') ?_ ?_
    · walk_at "go"
      refine mul he1 he2 r1 r2 fun m1 G1 hm1 z1 => ?_
      walk_at "go"
      refine mul hm1 (he3.sm z1) (r1.joinR r2) r3 fun m2 G2 hm2 z2 => ?_
      walk_at "go"
      refine mul ((he2.sm z1).sm z2) ((he3.sm z1).sm z2) r2 r3 fun m3 G3 hm3 z3 => ?_
      walk_at "go"
      have z13 := z1.trans (z2.trans z3)
      refine mul (he1.sm z13) hm3 r1 (r2.joinR r3) fun m4 G4 hm4 z4 => ?_
      walk_at "go"
      refine neq (hm2.sm (z3.trans z4)) hm4 (join_assoc _ (r2.in4 n4w)) ?_
      refine ⟨_, rfl, iteNo rfl ?_⟩
      have z14 := z13.trans z4
      walk_at "go"
      refine uni (he2.sm z14) (he3.sm z14) r2 r3 fun u1 G5 hu1 z5 => ?_
      walk_at "go"
      have z15 := z14.trans z5
      refine mul (he1.sm z15) hu1 r1 (r2.uniR r3) fun m5 G6 hm5 z6 => ?_
      walk_at "go"
      have z16 := z15.trans z6
      refine mul (he1.sm z16) (he2.sm z16) r1 r2 fun m6 G7 hm6 z7 => ?_
      walk_at "go"
      have z17 := z16.trans z7
      refine mul (he1.sm z17) (he3.sm z17) r1 r3 fun m7 G8 hm7 z8 => ?_
      walk_at "go"
      refine uni (hm6.sm z8) hm7 (r1.joinR r2) (r1.joinR r3) fun u2 G9 hu2 z9 => ?_
      walk_at "go"
      refine neq (hm5.sm (z7.trans (z8.trans z9))) hu2 (join_uni _ r2.len r3.len) ?_
      refine ⟨_, rfl, iteNo rfl ?_⟩
      exact ⟨rfl, z17.trans (z8.trans z9)⟩
    rintro σ' H14 ⟨rfl, s14⟩
    have ht14 := s14 _ _ ht13
    have hk14 := hk13.sm s14
    have he1 := he1.sm s14
    have he2 := he2.sm s14
    have he3 := he3.sm s14
    walk_at "go"
    refine mul he1 he2 r1 r2 fun m1 G1 hm1 z1 => ?_
    walk_at "go"
    refine mul hm1 (he3.sm z1) (r1.joinR r2) r3 fun m2 G2 hm2 z2 => ?_
    try unfold tCmM
    walk_at "go"
    refine ⟨rfl, ?_⟩
    have z12 := z1.trans z2
    have hDz := z12 _ _ (s14 _ _ hD13)
    walk_at "go"
    refine ⟨x0, x1, rfl, rfl, Nat.le_trans (show x0.cps.size + x1.cps.size ≤ 24 from Nat.add_le_add l0.1 l1.1) (by decide), ?_⟩
    walk_at "go"
    have c01 := cat_lets l0 l1
    have c012 := cat_lets c01 l2
    refine ⟨x0 ++ x1, x2, rfl, rfl, Nat.le_trans (show (x0 ++ x1).cps.size + x2.cps.size ≤ 36 from Nat.add_le_add c01.1 l2.1) (by decide), ?_⟩
    walk_at "go"
    refine ⟨rfl, rfl, k, _, r, wr, d, qt, rfl, ⟨Nat.le_trans c012.1 (by decide), c012.2⟩, hk14.sm z12, kd, fun e5 H15 n15 he5 s15 => ?_⟩
    refine neq (hm2.sm s15) he5 (by rw [of_app kd _ _ l1.2, of_app kd _ _ l2.2, cat_list, cat_list]) ?_
    refine ⟨_, rfl, iteNo rfl ?_⟩
    have sB : Same H14 H15 := z12.trans s15
    clear hDz hm1 hm2 he5 n15 z1 z2 z12
    try unfold tCmM
    walk_at "go"
    refine ⟨rfl, ?_⟩
    walk_at "go"
    refine ⟨rfl, rfl, k, "", r, wr, d, qt, rfl, ⟨by decide, fun c hc => by cases hc⟩, hk14.sm sB, kd, fun e0 H16 n16 he0 s16 => ?_⟩
    have sC : Same H13 H16 := s14.trans (sB.trans s16)
    have sD : Same H14 H16 := sB.trans s16
    have he0 : EffAt C CE H16 e0 k r wr d (ofR qt r wr d []) := he0
    have r0 : Rw (stN wr).length (ofR qt r wr d []) := betw_rw kd.2.1 kd.2.2
    have n0 : NR (ofR qt r wr d []) := ofR_nr kd.2.1 kd.2.2 _
    have ht16 := sC _ _ ht13
    have hk16 := hk13.sm sC
    have hS16 := sC _ _ hS13
    have hK16 := sC _ _ hK13
    have hD16 := sC _ _ hD13
    have tb16 := tb13.ext sC
    have pen16 := pen13.same sC
    have he1 := he1.sm sD
    have he2 := he2.sm sD
    have he3 := he3.sm sD
    have g1 := g1.same sC
    have g2 := g2.same sC
    have g3 := g3.same sC
    clear ht14 hk14 ht13 hk13 hS13 hK13 hD13 tb13 pen13 sB sC sD s14 s15 s16 n16
    walk_at "go"
    refine w_mid (fun σ' H' => σ' = sgX a p t k D S Kt e1 e2 e3 qt (some (.ref e0)) none none none none ∧ Same H16 H') ?_ ?_
    · walk_at "go"
      refine mul he0 he1 r0 r1 fun m1 G1 hm1 z1 => ?_
      walk_at "go"
      refine neq hm1 (he1.sm z1) (of_nil_app kd _ l0.2) ?_
      refine ⟨_, rfl, iteNo rfl ?_⟩
      walk_at "go"
      refine mul (he1.sm z1) (he0.sm z1) r1 r0 fun m2 G2 hm2 z2 => ?_
      walk_at "go"
      have z12 := z1.trans z2
      refine neq hm2 (he1.sm z12) (of_betw kd _) ?_
      refine ⟨_, rfl, iteNo rfl ?_⟩
      have hDz := z12 _ _ hD16
      try unfold tCmM
      walk_at "go"
      refine ⟨rfl, ?_⟩
      walk_at "go"
      refine ⟨rfl, rfl, k, x0, r, wr, d, true, rfl, l0.lets, hk16.sm z12, kd, fun e5 G3 n3 he5 z3 => ?_⟩
      have z13 := z12.trans z3
      obtain ⟨dx, tx, ix, _⟩ := insE he5
      walk_at "go"
      refine ⟨e5, e1, k, k1, r, wr, d, _, _, rfl, he5, he1.sm z13, rwOf l0.2, r1, fun G4 z4 => ?_⟩
      rw [win_quiet kd _ l0.2]
      refine ⟨_, rfl, iteNo rfl ?_⟩
      exact ⟨rfl, z13.trans z4⟩
    rintro σ' H17 ⟨rfl, s17⟩
    have ht17 := s17 _ _ ht16
    have hD17 := s17 _ _ hD16
    try unfold tCmM
    walk_at "go"
    refine ⟨rfl, ?_⟩
    walk_at "go"
    refine ⟨rfl, rfl, k, x1, r, wr, d, !qt, rfl, l1.lets, hk16.sm s17, kd, fun eM H18 n18 heM s18 => ?_⟩
    have rM : Rw (stN wr).length (ofR (!qt) r wr d x1.cps.toList) := rwOf l1.2
    have ht18 := s18 _ _ ht17
    have hD18 := s18 _ _ hD17
    walk_at "go"
    refine ⟨eM, k, t, r, wr, d, _, rfl, ht18, heM, rM.len, fun a19 H19 n19 h19 s19 => ?_⟩
    have hD19 := s19 _ _ hD18
    walk_at "go"
    refine ⟨t, x1, r, wr, d, !qt, rfl, s19 _ _ ht18, kd, l1.lets, fun a20 H20 n20 h20 s20 => ?_⟩
    refine ⟨_, _, dp_rows (h19.same s20), dp_rows h20, sh_rows _, sh_rows _, _, rfl, iteNo (by rw [eqv_rows]; simp) ?_⟩
    have sB : Same H16 H20 := s17.trans (s18.trans (s19.trans s20))
    have ht20 := sB _ _ ht16
    have hk20 := hk16.sm sB
    have hS20 := sB _ _ hS16
    have hK20 := sB _ _ hK16
    have hD20 := sB _ _ hD16
    have tb20 := tb16.ext sB
    have pen20 := pen16.same sB
    have he0 := he0.sm sB
    have he1 := he1.sm sB
    have he2 := he2.sm sB
    have he3 := he3.sm sB
    have g1 := g1.same sB
    have g2 := g2.same sB
    have g3 := g3.same sB
    have heM := heM.sm (s19.trans s20)
    clear ht16 hk16 hS16 hK16 hD16 tb16 pen16 sB s17 s18 s19 s20 ht17 ht18 hD17 hD18 hD19 h19 h20 n18 n19 n20
    walk_at "go"
    refine w_mid (fun σ' H' => σ' = sgX a p t k D S Kt e1 e2 e3 qt (some (.ref e0)) (some (.ref eM)) none none none ∧ Same H20 H') ?_ ?_
    · walk_at "go"
      refine ⟨e2, eM, k2, k, t, r, wr, d, _, _, rfl, ht20, he2, heM, r2, rM, nrOf, nrOf, fun G1 z1 => ?_⟩
      refine ⟨_, rfl, iteNo rfl ?_⟩
      walk_at "go"
      refine ⟨e1, eM, k1, k, t, r, wr, d, _, _, rfl, z1 _ _ ht20, he1.sm z1, heM.sm z1, r1, rM, nrOf, nrOf, fun G2 z2 => ?_⟩
      refine ⟨_, rfl, iteNo rfl ?_⟩
      exact ⟨rfl, z1.trans z2⟩
    rintro σ' H21 ⟨rfl, s21⟩
    have ht21 := s21 _ _ ht20
    have hS21 := s21 _ _ hS20
    have hK21 := s21 _ _ hK20
    have hD21 := s21 _ _ hD20
    have tb21 := tb20.ext s21
    have pen21 := pen20.same s21
    have he0 := he0.sm s21
    have he1 := he1.sm s21
    have he2 := he2.sm s21
    have he3 := he3.sm s21
    have g1 := g1.same s21
    have g2 := g2.same s21
    have g3 := g3.same s21
    clear ht20 hk20 hS20 hK20 hD20 tb20 pen20 heM s21
    walk_at "go"
    refine new (show 2 ≤ sizeLine by decide) fun p1 G1 q1 w1 z1 => ?_
    walk_at "go"
    refine new (show 2 ≤ sizeLine by decide) fun p2 G2 q2 w2 z2 => ?_
    walk_at "go"
    refine new (show 2 ≤ sizeLine by decide) fun p3 G3 q3 w3 z3 => ?_
    walk_at "go"
    have z13 := z1.trans (z2.trans z3)
    refine mul (he1.sm z13) (he2.sm z13) r1 r2 fun m4 G4 hm4 z4 => ?_
    walk_at "go"
    have z14 := z13.trans z4
    refine mul (he2.sm z14) (he1.sm z14) r2 r1 fun m5 G5 hm5 z5 => ?_
    walk_at "go"
    refine new (show 2 ≤ sizeLine by decide) fun p6 G6 q6 w6 z6 => ?_
    walk_at "go"
    have z16 := z14.trans (z5.trans z6)
    refine uni (he1.sm z16) (he3.sm z16) r1 r3 fun m7 G7 hm7 z7 => ?_
    walk_at "go"
    refine new (show 2 ≤ sizeLine by decide) fun p8 G8 q8 w8 z8 => ?_
    walk_at "go"
    refine new (show 2 ≤ sizeLine by decide) fun p9 G9 q9 w9 z9 => ?_
    walk_at "go"
    refine new (show 6 ≤ sizeLine by decide) fun PL G10 qP wP z10 => ?_
    have y10 := z10
    have y9 : Same G8 G10 := z9.trans z10
    have y8 : Same G7 G10 := z8.trans y9
    have y7 : Same G6 G10 := z7.trans y8
    have y6 : Same G5 G10 := z6.trans y7
    have y5 : Same G4 G10 := z5.trans y6
    have y4 : Same G3 G10 := z4.trans y5
    have y3 : Same G2 G10 := z3.trans y4
    have y2 : Same G1 G10 := z2.trans y3
    have y1 : Same H21 G10 := z1.trans y2
    have a1 := he1.sm y1
    have a2 := he2.sm y1
    have a3 := he3.sm y1
    have a0 := he0.sm y1
    have all : ∀ y ∈ [V.ref p1, .ref p2, .ref p3, .ref p6, .ref p8, .ref p9], PairOk C CE r wr d G10 y := fun y hy => by
      simp only [List.mem_cons, List.not_mem_nil, or_false] at hy
      rcases hy with rfl | rfl | rfl | rfl | rfl | rfl
      · exact ⟨p1, _, _, _, _, _, _, rfl, y2 _ _ w1, a1, a2, r1, r2, nrOf, nrOf⟩
      · exact ⟨p2, _, _, _, _, _, _, rfl, y3 _ _ w2, a2, a3, r2, r3, nrOf, nrOf⟩
      · exact ⟨p3, _, _, _, _, _, _, rfl, y4 _ _ w3, a1, a1, r1, r1, nrOf, nrOf⟩
      · exact ⟨p6, _, _, _, _, _, _, rfl, y7 _ _ w6, hm4.sm y5, hm5.sm y6, r1.joinR r2, r2.joinR r1, joinR_nr _ _, joinR_nr _ _⟩
      · exact ⟨p8, _, _, _, _, _, _, rfl, y9 _ _ w8, a1, hm7.sm y8, r1, r1.uniR r3, nrOf, uniR_nr _ _⟩
      · exact ⟨p9, _, _, _, _, _, _, rfl, y10 _ _ w9, a0, a1, r0, r1, n0, nrOf⟩
    have wP : G10 PL = some (.lst [.ref p1, .ref p2, .ref p3, .ref p6, .ref p8, .ref p9]) := wP
    have ht22 := y1 _ _ ht21
    walk_at "go"
    refine over_l (SqL.of wP) ?_
    intro D2 nD2
    have zD2 : Same G10 (upd G10 D2 (.lst [])) := fun b u e => by
      rw [upd_ne (ne_of_none e nD2)]
      exact e
    refine lc_list (K := K) (a := PL) (xs := [.ref p1, .ref p2, .ref p3, .ref p6, .ref p8, .ref p9]) (fun i H' => H' D2 = some (.lst []) ∧ Same G10 H') ⟨upd_same, zD2⟩ (fun i H' _ ⟨_, s⟩ => SqL.of (s _ _ wP)) (fun i y H22 hy ⟨hD2, s22⟩ => ?_) (fun H22 ⟨hD2, s22⟩ => ?_)
    · obtain ⟨qq, ea, eb, ka, kb, F, F', rfl, w', ha, hb, ra, rb, na, nb⟩ := (all y (List.mem_of_getElem? hy)).same s22
      walk_at "go"
      refine ⟨qq, _, rfl, SqT.of w', rfl, _, _, rfl, _, _, rfl, rfl, ?_⟩
      walk_at "go"
      refine ⟨rfl, ?_⟩
      walk_at "go"
      refine ⟨ea, eb, ka, kb, t, r, wr, d, F, F', rfl, s22 _ _ ht22, ha, hb, ra, rb, na, nb, fun H23 s23 => ?_⟩
      refine ⟨_, rfl, ?_⟩
      refine iteNo rfl ?_
      exact ⟨s23 _ _ hD2, s22.trans s23⟩
    walk_at "go"
    refine new (show 0 ≤ sizeLine by decide) fun nL H23 n23 h23 s23 => ?_
    refine ⟨.list [], .list [], .lst (SqL.of (s23 _ _ hD2)) .nil, .lst (SqL.of h23) .nil, by decide, by decide, _, rfl, iteNo (by decide) ?_⟩
    have sE : Same H21 H23 := y1.trans (s22.trans s23)
    have ht23 := sE _ _ ht21
    have hS23 := sE _ _ hS21
    have hK23 := sE _ _ hK21
    have hD23 := sE _ _ hD21
    have tb23 := tb21.ext sE
    have pen23 := pen21.same sE
    have he1 := he1.sm sE
    have he2 := he2.sm sE
    have he3 := he3.sm sE
    have g1 := g1.same sE
    have g2 := g2.same sE
    have g3 := g3.same sE
    clear ht21 hS21 hK21 hD21 tb21 pen21 sE all y1 y2 y3 y4 y5 y6 y7 y8 y9 y10 z1 z2 z3 z4 z5 z6 z7 z8 z9 z10 z13 z14 z16 hm4 hm5 hm7 w1 w2 w3 w6 w8 w9 q1 q2 q3 q6 q8 q9 a0 a1 a2 a3 he0 zD2 nD2 wP qP ht22 s22 hD2 s23 h23
    walk_at "go"
    refine ⟨p, l, cells, 3 + 45 * 3 + 1, rfl, pen23, by omega, fun t' r' wr' d' H24 hr' hw' hd' nt' ht' pen24 k24 => ?_⟩
    obtain ⟨i23, j23, hp23⟩ := pen23.atp
    have ht24 := tup_kpD ht23 hp23 k24
    have lne : ∀ {G : Hp} {a b : Addr} {xs : List V} {y : V} {i j : Int}, G a = some (.lst (xs)) → G b = some (.lst [y, .int i, .int j]) → xs[1]? ≠ some (.int i) → a ≠ b := fun ha hb h z => by
      rw [z, hb] at ha
      cases ha
      exact h rfl
    have hS24 : H24 S = some (.lst [.ref e1, .ref e2, .ref e3]) := k24 _ _ hS23 (lne hS23 hp23 (by simp))
    have hK24 : H24 Kt = some (.lst [.ref t1, .ref t2, .ref t3]) := k24 _ _ hK23 (lne hK23 hp23 (by simp))
    have hD24 : H24 D = some (.lst [.str x0, .str x1, .str x2]) := k24 _ _ hD23 (lne hD23 hp23 (by simp))
    have tb24 := tabs_kpD hp23 k24 tb23
    have he1 := he1.kpD hp23 k24
    have he2 := he2.kpD hp23 k24
    have he3 := he3.kpD hp23 k24
    have g1 := g1.kpD hp23 k24
    have g2 := g2.kpD hp23 k24
    have g3 := g3.kpD hp23 k24
    clear ht23 hS23 hK23 hD23 tb23 pen23
    walk_at "go"
    refine w_mid (fun σ' H' => (∃ x19, σ' = sgX a p t k D S Kt e1 e2 e3 qt (some (.ref e0)) (some (.ref eM)) (some (.ref PL)) (some (.ref t')) x19) ∧ ExtN H24 H') ?_ ?_
    · walk_at "go"
      refine ⟨_, _, dp_strs3 ht', dp_strs3 ht24, sh_strs3 _ hr' _ hw' _ hd', sh_strs3 _ hr _ hw _ hd, _, rfl, ?_⟩
      rw [eqv_strs3]
      by_cases same : r' = r ∧ wr' = wr ∧ d' = d
      · refine iteNo (by rw [decide_eq_true same]; rfl) ?_
        exact ⟨⟨_, rfl⟩, ExtN.refl _⟩
      · refine iteYs (by rw [decide_eq_false same]; rfl) ?_
        try unfold tCmM
        walk_at "go"
        refine ⟨rfl, ?_⟩
        walk_at "go"
        refine make fun kO dkO H25 n25 h25 s25 => ?_
        refine ⟨kO, dkO, r', wr', d', rfl, h25, hr', hw', hd', fun H26 hk26 e26 => ⟨rfl, ?_⟩⟩
        have s26 : Same H24 H26 := fun b o e => e26 b o (s25 b o e) (ne_of_none e n25)
        have hD26 := s26 _ _ hD24
        walk_at "go"
        refine ⟨rfl, rfl, kO, x0, r', wr', d', qt, rfl, l0.lets, hk26, ⟨hr', hw', hd'⟩, fun eO H27 n27 heO s27 => ?_⟩
        have s2 : Same H24 H27 := s26.trans s27
        walk_at "go"
        refine ⟨e1, eO, k1, kO, r, wr, d, r', wr', d', _, _, rfl, he1.sm s2, heO, ⟨hr', hw', hd'⟩, fun z => same ⟨z.1.symm, z.2.1.symm, z.2.2.symm⟩, tb24.ext s2, fun H28 x28 => ?_⟩
        refine ⟨_, rfl, iteNo rfl ?_⟩
        exact ⟨⟨_, rfl⟩, (ExtN.of s2).trans x28⟩
    rintro σ' H28 ⟨⟨x19, rfl⟩, s28⟩
    have ht28 := s28 _ _ ht24 nofun
    have hS28 := s28 _ _ hS24 nofun
    have hK28 := s28 _ _ hK24 nofun
    have he1 := he1.ext s28
    have he2 := he2.ext s28
    have he3 := he3.ext s28
    have g1 := g1.ext s28
    have g2 := g2.ext s28
    have g3 := g3.ext s28
    clear ht24 hS24 hK24 hD24 tb24 s28 k24 hp23 pen24 ht'
    walk_at "go"
    refine over_l (SqL.of hS28) ?_
    intro D3 nD3
    have zD3 : Same H28 (upd H28 D3 (.lst [])) := fun b u e => by
      rw [upd_ne (ne_of_none e nD3)]
      exact e
    have ef3 : ∀ {i : Nat} {e : Addr}, [e1, e2, e3][i]? = some e → ∃ x k', [x0, x1, x2][i]? = some x ∧ EffAt C CE H28 e k' r wr d (ofR qt r wr d x.cps.toList) := fun {i e} h => by
      match i, h with
      | 0, h => cases h; exact ⟨x0, k1, rfl, he1⟩
      | 1, h => cases h; exact ⟨x1, k2, rfl, he2⟩
      | 2, h => cases h; exact ⟨x2, k3, rfl, he3⟩
    refine lc_list (K := K) (a := S) (xs := [e1, e2, e3].map V.ref) (fun i H' => ∃ ts : List Addr, H' D3 = some (.lst (ts.map V.ref)) ∧ Al2 (fun t x => RowsAt H' t (ofR qt r wr d x.cps.toList)) ts ([x0, x1, x2].take i) ∧ Same H28 H') ⟨[], upd_same, trivial, zD3⟩ (fun i H' _ ⟨_, _, _, s⟩ => SqL.of (s _ _ hS28)) (fun i y H11 hy ⟨ts, hK1, al, s11⟩ => ?_) (fun H29 ⟨ts, hK1, al, s29⟩ => ?_)
    · rw [List.getElem?_map] at hy
      obtain ⟨e, ee, rfl⟩ := Option.map_eq_some_iff.mp hy
      obtain ⟨x, k', ex, he⟩ := ef3 ee
      have lx := hx x (List.mem_of_getElem? ex)
      have i3 := (List.getElem?_eq_some_iff.mp ex).1
      walk_at "go"
      refine ⟨rfl, ?_⟩
      try unfold tYes
      refine iteT ?_
      walk_at "go"
      refine ⟨e, k', t, r, wr, d, _, rfl, s11 _ _ ht28, he.sm s11, (rwOf lx.2).len, fun a H12 n12 h12 s12 => ?_⟩
      have hK12 := s12 _ _ hK1
      have kK : Kp D3 H12 (upd H12 D3 (.lst (ts.map V.ref ++ [.ref a]))) := fun b o z nb => by
        rw [upd_ne nb]
        exact z
      refine ⟨_, hK12, ?_, ts ++ [a], ?_, ?_, fun b o z => ?_⟩
      · have := al.len
        rw [List.length_take] at this
        rw [List.length_map]
        exact Nat.lt_of_lt_of_le (show ts.length < 4 by omega) (by decide)
      · rw [upd_same, List.map_append]
        rfl
      · rw [List.take_add_one, ex]
        refine Al2.snoc (R := fun t x => RowsAt (upd H12 D3 (.lst (ts.map V.ref ++ [.ref a]))) t (ofR qt r wr d x.cps.toList)) (h12.kpD hK12 kK) (al.imp fun e' x' z => (z.same s12).kpD hK12 kK)
      · have nb : b ≠ D3 := fun e => by
          rw [e, nD3] at z
          cases z
        rw [upd_ne nb]
        exact s12 _ _ (s11 _ _ z)
    obtain ⟨u1, u2, u3, rfl, f1, f2, f3⟩ : ∃ t1 t2 t3, ts = [t1, t2, t3] ∧ RowsAt H29 t1 (ofR qt r wr d x0.cps.toList) ∧ RowsAt H29 t2 (ofR qt r wr d x1.cps.toList) ∧ RowsAt H29 t3 (ofR qt r wr d x2.cps.toList) := by
      match ts, al with
      | [a, b, c], ⟨h1, h2, h3, _⟩ => exact ⟨a, b, c, rfl, h1, h2, h3⟩
    have hK29 : H29 D3 = some (.lst [.ref u1, .ref u2, .ref u3]) := hK1
    walk_at "go"
    refine ⟨_, _, .lst (SqL.of hK29) (.cons (dp_rows f1) (.cons (dp_rows f2) (.cons (dp_rows f3) .nil))), .lst (SqL.of (s29 _ _ hK28)) (.cons (dp_rows (g1.same s29)) (.cons (dp_rows (g2.same s29)) (.cons (dp_rows (g3.same s29)) .nil))), sh_rows3 _ _ _, sh_rows3 _ _ _, ?_⟩
    rw [eqv_rows3]
    exact q H29
end
end Law

set_option Elab.async false
set_option linter.all false
set_option maxRecDepth 100000
set_option maxHeartbeats 4000000
namespace Law
open PySem PySem.Spec PySem.Calls PyProof.Rows L2 KG
local macro_rules | `(tactic| walk_at "1") => `(tactic| first
  | (with_reducible refine w_var rfl ?_) | (with_reducible refine w_c ?_) | (with_reducible refine w_seq ?_) | (with_reducible refine w_asg ?_) | (with_reducible refine w_gname ?_) | (with_reducible refine w_op ?_) | (with_reducible refine w_un ?_)
  | (with_reducible refine w_add ?_) | (with_reducible refine w_sub ?_) | ((with_reducible refine' w_mod ?mo ?_); (case mo => first | assumption | decide | omega)) | (with_reducible refine w_and ?_) | (with_reducible refine w_or ?_) | (with_reducible refine w_xor ?_)
  | (with_reducible refine w_gt ?_) | (with_reducible refine w_lt ?_) | (with_reducible refine w_ge ?_) | (with_reducible refine w_le ?_) | ((with_reducible refine' w_eq ?sc ?_); (case sc => rfl)) | ((with_reducible refine' w_ne ?sc ?_); (case sc => rfl))
  | (with_reducible refine w_ret ?_) | (with_reducible refine w_next ?_) | (with_reducible refine w_ifs ?_) | (with_reducible refine w_ifx ?_) | (with_reducible refine w_test ?_) | (with_reducible refine w_tB ?_) | (with_reducible refine w_bl ?_)
  | ((with_reducible refine' w_ixL ?ixh ?ixa ?_); (case ixh => first | exact SqL.of (by assumption)); (case ixa => first | rfl | skip)) | ((with_reducible refine' w_ixT ?ixh ?ixa ?_); (case ixh => first | exact SqT.of (by assumption)); (case ixa => first | rfl | skip))
  | ((with_reducible refine' w_fld ?_)) | ((with_reducible refine' fld ?fh ?fc ?fn ?fl ?_); (case fh => assumption); (case fc => assumption); (case fn => assumption); (case fl => rfl)) | (with_reducible refine w_sfld ?_)
  | (with_reducible refine Or.inl ⟨_, rfl, ?_⟩) | (with_reducible refine w_gsub ?_) | (with_reducible refine w_andV ?_) | (with_reducible refine w_orV ?_)
  | (with_reducible refine w_nil ?_) | (with_reducible refine w_cons ?_) | (with_reducible refine w_tup ?_) | (with_reducible refine w_lst ?_) | (with_reducible refine w_and2 ?_) | (with_reducible refine w_or2 ?_) | (with_reducible refine w_not ?_) | (with_reducible refine w_cb ?_) | (with_reducible refine w_call ?_) | (with_reducible refine w_par ?_) | (with_reducible refine w_pnil ?_) | (with_reducible refine w_pcons ?_) | (with_reducible refine w_dput ?_) | (with_reducible refine w_dget ?_) | (with_reducible refine w_for ?_) | (with_reducible refine w_itup ?_) | (with_reducible refine w_ilist ?_) | (with_reducible refine w_irng ?_) | (with_reducible refine w_meth ?_) | (with_reducible refine w_make ?_) | (with_reducible refine w_makeK ?_) | (with_reducible refine w_methK ?_) | ((with_reducible refine' mth ?mh ?ml ?_); (case mh => assumption); (case ml => rfl)) | (with_reducible refine w_drop ?_))
local macro_rules | `(tactic| walk_at "go") => `(tactic| ((repeat (walk_at "1")); try dsimp only))
local macro_rules | `(tactic| walk_at "1") => `(tactic| first
  | (with_reducible refine w_notV ?_) | (with_reducible refine w_callK ?_) | (with_reducible refine w_lc ?_) | (with_reducible refine w_chain ?_) | (with_reducible refine w_neg ?_) | ((with_reducible refine' w_shr ?mo ?_); (case mo => first | assumption | omega)))
theorem ktup {K : PySem.W.Frag} {a : Addr} {dd : Option Addr} {its : Array Value} {n : Nat} {sl : Array (Option Value)} {xs : List V} (h : K.lookup a = some ⟨.type "tuple", dd, .seq its n, sl⟩) (z : Nat.ble its.size 100 = true) (r : Vals xs its.toList) : KTup K a xs :=
  ⟨_, its, n, h, rfl, rfl, Nat.le_trans (Nat.le_of_ble_eq_true z) (by decide), r⟩
theorem rec_at {K : PySem.W.Frag} {p g : Addr} {T : String} {d : Option Addr} {vs : Array Value} {ss : Array (Option Value)} {rs : List Value} (h : K.lookup p = some ⟨.type T, d, .fields vs, ss⟩) (v : vs.toList = .ref g :: rs) : PySem.W.recIn K p T = some (.ref g :: rs) := by
  unfold PySem.W.recIn
  rw [h]
  show (if (T == T) = true then some vs.toList else none) = _
  rw [beq_self_eq_true, if_pos rfl, v]
theorem vals_rev {x : List V} {y : List Value} (h : Vals x y) : Vals x.reverse y.reverse := by
  induction h with
  | nil => exact .nil
  | cons r _ ih =>
    rw [List.reverse_cons, List.reverse_cons]
    exact ih.append (.cons r .nil)

theorem kit_own {K : PySem.W.Frag} {t : Value} {C : Addr} {b : Bool} (hd : PySem.W.hasDictIn K C = true) (ty : PySem.W.typeIn K (.ref C) = some (.type "type")) (ne : (t == Value.ref C) = false) (s : PySem.W.subIn K t (.ref C) = some b) : PySem.W.kitOne K t (.ref C) = some b := by
  obtain ⟨cd, hc, _⟩ := PySem.W.any_some hd
  have e2 : ((PySem.W.clsIn K C).isSome && PySem.W.typeIn K (.ref C) == some (.type "type")) = true := by rw [hc, ty] <;> rfl
  unfold PySem.W.kitOne
  rw [ne, if_neg Bool.false_ne_true]
  show (if ((PySem.W.clsIn K C).isSome && PySem.W.typeIn K (.ref C) == some (.type "type")) = true then PySem.W.subIn K t (.ref C) else none) = some b
  rw [if_pos e2]
  exact s
theorem kit_same {K : PySem.W.Frag} {t : Value} : PySem.W.kitOne K t t = some true := if_pos (beq_self_eq_true t)
theorem kit_ve {K : PySem.W.Frag} {a : Addr} (s : PySem.W.subIn K (.ref a) (.type "ValueError") = some true) : PySem.W.kitOne K (.ref a) (.type "ValueError") = some true := by
  unfold PySem.W.kitOne
  rw [if_neg (by simp)]
  show (if PySem.W.kitMeta "ValueError" = true then PySem.W.subIn K (.ref a) (.type "ValueError") else none) = some true
  rw [if_pos (by decide +kernel)]
  exact s
theorem sup_up {K : PySem.W.Frag} {E BE N : Addr} {nm q : Str} {bs bm : List Value} {hdct : Bool} {sn : List Str} {sub : List Value} {ab : Bool} {col : Option Bool} {dd : Option Addr} {k0 k1 k2 k3 k5 : Option Value} {newId : String} {cdB : ClassData}
    (cl : K.lookup E = some (excClassObj nm q E N bs bm hdct sn sub ab col dd k0 k1 k2 k3 k5 newId)) (cB : PySem.W.clsIn K BE = some cdB) (mB : bm = cdB.mro) (f : PySem.W.findIn K (.ref BE) "__init__" = some (some (.builtin "ValueError.__init__"))) : PySem.W.ks_superIn K E E "__init__" = some (some (.builtin "ValueError.__init__")) := by
  have hcl : PySem.W.clsIn K E = some { name := nm, bases := bs, mro := .ref E :: bm, ns := N, qualname := q, hasDict := hdct, slotNames := sn, subclasses := sub, abstract := ab, collection := col, hasDel := false } := by
    unfold PySem.W.clsIn
    rw [cl] <;> rfl
  unfold PySem.W.ks_superIn
  rw [hcl, Option.bind_some]
  show PySem.W.alongIn K "__init__" (((Value.ref E :: bm).dropWhile (· != .ref E)).drop 1) = _
  have e : ((Value.ref E :: bm).dropWhile (· != .ref E)).drop 1 = bm := by simp [List.dropWhile_cons]
  rw [e, mB]
  unfold PySem.W.findIn at f
  dsimp only at f
  unfold PySem.W.clsIn at cB
  cases z : K.lookup BE with
  | none =>
    rw [z] at cB
    cases cB
  | some o =>
    rw [z] at cB f
    obtain ⟨oc, od, dt, osl⟩ := o
    cases dt with
    | cls cd =>
      cases cB
      exact f
    | _ => cases cB
theorem errX4 : ErrX s_InvalidKind___init__ "InvalidKind.__init__" "value" "value" :=
  ⟨_, _, _, _, _, _, _, _, _, _, _, _, rfl, { bind := fun _ _ _ _ _ _ _ _ _ => rfl, ev := ⟨_, fun _ => rfl⟩, par := rfl, k1 := by decide +kernel, k2 := by decide +kernel, k3 := by decide +kernel, k4 := by decide +kernel, npv := by decide, npd := by decide, cell := by decide +kernel, co := by decide +kernel, gen := by decide +kernel, kind := by decide +kernel }⟩
theorem bi_of {mg : Str → Option Value} (B : B1 mg) : Bi mg := ⟨B.g_int, B.g_len, B.g_abs, B.g_list, B.g_repr, B.g_range, B.g_str⟩
theorem kb_ofM {K : PySem.W.Frag} {kV doc pm : Value} {an : Option Addr} {cdv ct : Value} : KBn K (PySem.W.fnOf "of" "Effect.of" (defArgs s_Effect_of) (defBody s_Effect_of) (defScope s_Effect_of) .none kV doc pm an cdv ct) ["cls", "kind", "letters", "quiet"] 3 ["quiet"] (fun us ws => us ++ ws) (fun us ws => us ++ ws) :=
  ⟨fun s us ws _ h1 h2 => match us, ws, h1, h2 with | [_, _, _], [_], _, _ => .of_eq rfl, fun a b => a.append b⟩
theorem kb_par {K : PySem.W.Frag} {kV doc pm : Value} {an : Option Addr} {cdv ct : Value} : KBn K (PySem.W.fnOf "effect_parting" "effect_parting" (defArgs s_effect_parting) (defBody s_effect_parting) (defScope s_effect_parting) .none kV doc pm an cdv ct) ["a", "b"] 0 ["b", "a"] (fun us ws => us ++ ws.reverse) (fun us ws => us ++ ws.reverse) :=
  ⟨fun s us ws _ h1 h2 => match us, ws, h1, h2 with | [], [_, _], _, _ => .of_eq rfl, fun a b => a.append (vals_rev b)⟩
theorem kb_win {K : PySem.W.Frag} {f : Addr} {fd : FuncData} (F : Fun K "within" "Effect.within" s_Effect_within f fd) : KBn K fd ["self", "b"] 1 ["b"] (fun us ws => us ++ ws) (fun us ws => us ++ ws) := by
  obtain ⟨_, _, _, _, _, _, _, _, _, rfl, _⟩ := F.ex
  exact ⟨fun s us ws _ h1 h2 => match us, ws, h1, h2 with | [_], [_], _, _ => .of_eq rfl, fun a b => a.append b⟩
theorem all {l : PySem.W.OpenLaw} {w : World} {K : PySem.W.Frag} {h : Heap} {mg : Str → Option Value} {fa : Addr} {q : Program} (X : K.In h) (G : h.Ns mainGlobals mg) (hfa : mg "law" = some (.ref fa)) (tabs : Tabs0 q mg h) (hr1 : ((recsOf q).any fun d => d.name == "_law_unlike_right") = true)
    {C aW aI aR bW aD CE : Addr} {mc mcE : Value} {tS tM tL : Tok} {u2 : Tok} {u3 : Tok} {ddt1 : Option Addr} {nnt1 : Nat} {sst1 : Array (Option Value)} {u5 : Tok} {u6 : Tok} {u7 : Tok} {u8 : Tok} {u9 : Tok} {u10 : Tok} {u11 : Tok} {ddt4 : Option Addr} {nnt4 : Nat} {sst4 : Array (Option Value)} {u13 : Tok} {u14 : Tok} {u15 : Tok} {u16 : Tok} {ddt12 : Option Addr} {nnt12 : Nat} {sst12 : Array (Option Value)} {esW esI : Array DictEntry} {nW_ nI_ : Nat} {w_store w_storea w_storeb : Addr} {ddt17 : Option Addr} {nnt17 : Nat} {sst17 : Array (Option Value)} {u19 : Tok} {u20 : Tok} {ddt18 : Option Addr} {nnt18 : Nat} {sst18 : Array (Option Value)} {u22 : Tok} {u23 : Tok} {ddt21 : Option Addr} {nnt21 : Nat} {sst21 : Array (Option Value)} {w_clear1 w_clear1a w_clear1b : Addr} {ddt24 : Option Addr} {nnt24 : Nat} {sst24 : Array (Option Value)} {u26 : Tok} {u27 : Tok} {ddt25 : Option Addr} {nnt25 : Nat} {sst25 : Array (Option Value)} {u29 : Tok} {u30 : Tok} {ddt28 : Option Addr} {nnt28 : Nat} {sst28 : Array (Option Value)} {w_clear0 w_clear0a w_clear0b : Addr} {ddt31 : Option Addr} {nnt31 : Nat} {sst31 : Array (Option Value)} {u33 : Tok} {u34 : Tok} {ddt32 : Option Addr} {nnt32 : Nat} {sst32 : Array (Option Value)} {u36 : Tok} {u37 : Tok} {ddt35 : Option Addr} {nnt35 : Nat} {sst35 : Array (Option Value)} {w_set1 w_set1a w_set1b : Addr} {ddt38 : Option Addr} {nnt38 : Nat} {sst38 : Array (Option Value)} {u40 : Tok} {u41 : Tok} {ddt39 : Option Addr} {nnt39 : Nat} {sst39 : Array (Option Value)} {u43 : Tok} {u44 : Tok} {ddt42 : Option Addr} {nnt42 : Nat} {sst42 : Array (Option Value)} {w_flip1 w_flip1a w_flip1b : Addr} {ddt45 : Option Addr} {nnt45 : Nat} {sst45 : Array (Option Value)} {u47 : Tok} {u48 : Tok} {ddt46 : Option Addr} {nnt46 : Nat} {sst46 : Array (Option Value)} {u50 : Tok} {u51 : Tok} {ddt49 : Option Addr} {nnt49 : Nat} {sst49 : Array (Option Value)} {w_once w_oncea w_onceb : Addr} {ddt52 : Option Addr} {nnt52 : Nat} {sst52 : Array (Option Value)} {u54 : Tok} {u55 : Tok} {ddt53 : Option Addr} {nnt53 : Nat} {sst53 : Array (Option Value)} {u57 : Tok} {u58 : Tok} {ddt56 : Option Addr} {nnt56 : Nat} {sst56 : Array (Option Value)} {w_none w_nonea w_noneb : Addr} {ddt59 : Option Addr} {nnt59 : Nat} {sst59 : Array (Option Value)} {u61 : Tok} {u62 : Tok} {ddt60 : Option Addr} {nnt60 : Nat} {sst60 : Array (Option Value)} {u64 : Tok} {u65 : Tok} {ddt63 : Option Addr} {nnt63 : Nat} {sst63 : Array (Option Value)} {i_still : Addr} {ddt66 : Option Addr} {nnt66 : Nat} {sst66 : Array (Option Value)} {i_raise : Addr} {u68 : Tok} {ddt67 : Option Addr} {nnt67 : Nat} {sst67 : Array (Option Value)} {i_end : Addr} {u70 : Tok} {ddt69 : Option Addr} {nnt69 : Nat} {sst69 : Array (Option Value)} {i_drift : Addr} {u72 : Tok} {u73 : Tok} {ddt71 : Option Addr} {nnt71 : Nat} {sst71 : Array (Option Value)} {m_Kind_init : Addr} {odv74 anv74 : Option Addr} {slv74 : Array (Option Value)} {ocv74 kVv74 dcv74 pmv74 cdv74 ctv74 : Value} {m_Kind_after_read : Addr} {odv75 anv75 : Option Addr} {slv75 : Array (Option Value)} {ocv75 kVv75 dcv75 pmv75 cdv75 ctv75 : Value} {m_Kind_after_write : Addr} {odv76 anv76 : Option Addr} {slv76 : Array (Option Value)} {ocv76 kVv76 dcv76 pmv76 cdv76 ctv76 : Value} {m_Kind_unguarded : Addr} {odv77 anv77 : Option Addr} {slv77 : Array (Option Value)} {ocv77 kVv77 dcv77 pmv77 cdv77 ctv77 : Value} {m_Kind_deeds : Addr} {odv78 anv78 : Option Addr} {slv78 : Array (Option Value)} {ocv78 kVv78 dcv78 pmv78 cdv78 ctv78 : Value} {m_Kind_eq : Addr} {odv79 anv79 : Option Addr} {slv79 : Array (Option Value)} {ocv79 kVv79 dcv79 pmv79 cdv79 ctv79 : Value} {m_Kind_str : Addr} {odv80 anv80 : Option Addr} {slv80 : Array (Option Value)} {ocv80 kVv80 dcv80 pmv80 cdv80 ctv80 : Value} {m_Effect_init : Addr} {odv81 anv81 : Option Addr} {slv81 : Array (Option Value)} {ocv81 kVv81 dcv81 pmv81 cdv81 ctv81 : Value} {m_Effect_call : Addr} {odv82 anv82 : Option Addr} {slv82 : Array (Option Value)} {ocv82 kVv82 dcv82 pmv82 cdv82 ctv82 : Value} {m_Effect_eq : Addr} {odv83 anv83 : Option Addr} {slv83 : Array (Option Value)} {ocv83 kVv83 dcv83 pmv83 cdv83 ctv83 : Value} {m_Effect_mul : Addr} {odv84 anv84 : Option Addr} {slv84 : Array (Option Value)} {ocv84 kVv84 dcv84 pmv84 cdv84 ctv84 : Value} {m_Effect_or : Addr} {odv85 anv85 : Option Addr} {slv85 : Array (Option Value)} {ocv85 kVv85 dcv85 pmv85 cdv85 ctv85 : Value} {m_Effect_within : Addr} {odv86 anv86 : Option Addr} {slv86 : Array (Option Value)} {ocv86 kVv86 dcv86 pmv86 cdv86 ctv86 : Value} {pOF gOF kdOF : Addr} {ddOF : Option Addr} {vsOF : Array Value} {ssOF : Array (Option Value)} {rsOF : List Value} {odOF anOF : Option Addr} {slOF : Array (Option Value)} {ocOF dcOF pmOF cdOF ctOF : Value} {BE : Addr} {E0 : Addr} {E1 : Addr} {E2 : Addr} {E3 : Addr} {E4 : Addr} {E5 : Addr} {cdB : ClassData} {nmE4 qE4 : Str} {NE4 : Addr} {bsE4 bmE4 : List Value} {snE4 : List Str} {subE4 : List Value} {abE4 : Bool} {colE4 : Option Bool} {ddE4 : Option Addr} {j0_4 j1_4 j2_4 j3_4 j5_4 : Option Value} {fI4 cda4 cc4 : Addr} {ocE4 kVE4 dcE4 pmE4 ctE4 : Value} {anE4 odE4 : Option Addr} {slE4 : Array (Option Value)} {ccl4 ccv4 : Value} {cdd4 cld4 : Option Addr} {vsE4 : Array Value} {ccs4 csl4 : Array (Option Value)} {fileE4 : Str} {tfE4 : Tok} {f_check_letters : Addr} {odv87 anv87 : Option Addr} {slv87 : Array (Option Value)} {ocv87 kVv87 dcv87 pmv87 cdv87 ctv87 : Value} {f_check_same_kind : Addr} {odv88 anv88 : Option Addr} {slv88 : Array (Option Value)} {ocv88 kVv88 dcv88 pmv88 cdv88 ctv88 : Value} {f_ends_without_letters : Addr} {odv89 anv89 : Option Addr} {slv89 : Array (Option Value)} {ocv89 kVv89 dcv89 pmv89 cdv89 ctv89 : Value} {f_ends_of_letter : Addr} {odv90 anv90 : Option Addr} {slv90 : Array (Option Value)} {ocv90 kVv90 dcv90 pmv90 cdv90 ctv90 : Value} {f_joined : Addr} {odv91 anv91 : Option Addr} {slv91 : Array (Option Value)} {ocv91 kVv91 dcv91 pmv91 cdv91 ctv91 : Value} {f_either : Addr} {odv92 anv92 : Option Addr} {slv92 : Array (Option Value)} {ocv92 kVv92 dcv92 pmv92 cdv92 ctv92 : Value} {f_effect_parting : Addr} {odv93 anv93 : Option Addr} {slv93 : Array (Option Value)} {ocv93 kVv93 dcv93 pmv93 cdv93 ctv93 : Value} {f__law_pen : Addr} {odv94 anv94 : Option Addr} {slv94 : Array (Option Value)} {ocv94 kVv94 dcv94 pmv94 cdv94 ctv94 : Value} {f__law_draw : Addr} {odv95 anv95 : Option Addr} {slv95 : Array (Option Value)} {ocv95 kVv95 dcv95 pmv95 cdv95 ctv95 : Value} {f__law_heard : Addr} {odv96 anv96 : Option Addr} {slv96 : Array (Option Value)} {ocv96 kVv96 dcv96 pmv96 cdv96 ctv96 : Value} {f__law_write : Addr} {odv97 anv97 : Option Addr} {slv97 : Array (Option Value)} {ocv97 kVv97 dcv97 pmv97 cdv97 ctv97 : Value} {f__law_read : Addr} {odv98 anv98 : Option Addr} {slv98 : Array (Option Value)} {ocv98 kVv98 dcv98 pmv98 cdv98 ctv98 : Value} {f__law_deeds : Addr} {odv99 anv99 : Option Addr} {slv99 : Array (Option Value)} {ocv99 kVv99 dcv99 pmv99 cdv99 ctv99 : Value} {f__law_words : Addr} {odv100 anv100 : Option Addr} {slv100 : Array (Option Value)} {ocv100 kVv100 dcv100 pmv100 cdv100 ctv100 : Value} {f__law_closed : Addr} {odv101 anv101 : Option Addr} {slv101 : Array (Option Value)} {ocv101 kVv101 dcv101 pmv101 cdv101 ctv101 : Value} {f__law_ends : Addr} {odv102 anv102 : Option Addr} {slv102 : Array (Option Value)} {ocv102 kVv102 dcv102 pmv102 cdv102 ctv102 : Value} {f__law_states : Addr} {odv103 anv103 : Option Addr} {slv103 : Array (Option Value)} {ocv103 kVv103 dcv103 pmv103 cdv103 ctv103 : Value} {f__law_letters : Addr} {odv104 anv104 : Option Addr} {slv104 : Array (Option Value)} {ocv104 kVv104 dcv104 pmv104 cdv104 ctv104 : Value} {f__law_rows : Addr} {odv105 anv105 : Option Addr} {slv105 : Array (Option Value)} {ocv105 kVv105 dcv105 pmv105 cdv105 ctv105 : Value} {f__law_told : Addr} {odv106 anv106 : Option Addr} {slv106 : Array (Option Value)} {ocv106 kVv106 dcv106 pmv106 cdv106 ctv106 : Value} {f__law_compared : Addr} {odv107 anv107 : Option Addr} {slv107 : Array (Option Value)} {ocv107 kVv107 dcv107 pmv107 cdv107 ctv107 : Value} {f__law_put : Addr} {odv108 anv108 : Option Addr} {slv108 : Array (Option Value)} {ocv108 kVv108 dcv108 pmv108 cdv108 ctv108 : Value} {f__law_mixed_right : Addr} {odv109 anv109 : Option Addr} {slv109 : Array (Option Value)} {ocv109 kVv109 dcv109 pmv109 cdv109 ctv109 : Value} {f__law_unlike_right : Addr} {odv110 anv110 : Option Addr} {slv110 : Array (Option Value)} {ocv110 kVv110 dcv110 pmv110 ctv110 : Value} {f_law : Addr} {odv111 anv111 : Option Addr} {slv111 : Array (Option Value)} {ocv111 kVv111 dcv111 pmv111 cdv111 ctv111 : Value} {cl1 Pt1 : Addr} {ddl1 : Option Addr} {vsl1 : Array Value} {sll1 : Array (Option Value)}
    (n_Kind : PySem.W.nsIn K mainGlobals "Kind" = some (some (.ref C)))
    (n_WRITES : PySem.W.nsIn K mainGlobals "WRITES" = some (some (.ref aW)))
    (n_INVERTED : PySem.W.nsIn K mainGlobals "INVERTED" = some (some (.ref aI)))
    (n_Effect : PySem.W.nsIn K mainGlobals "Effect" = some (some (.ref CE)))
    (n_SPENT : PySem.W.nsIn K mainGlobals "SPENT" = some (some (.int 2 tS)))
    (n_MOST : PySem.W.nsIn K mainGlobals "MOST_LETTERS" = some (some (.int 40 tM)))
    (n_LETTERS : PySem.W.nsIn K mainGlobals "LETTERS" = some (some (.str "01r" tL)))
    (no_int : PySem.W.nsIn K mainGlobals "int" = some none)
    (no_len : PySem.W.nsIn K mainGlobals "len" = some none)
    (no_abs : PySem.W.nsIn K mainGlobals "abs" = some none)
    (no_list : PySem.W.nsIn K mainGlobals "list" = some none)
    (no_repr : PySem.W.nsIn K mainGlobals "repr" = some none)
    (no_range : PySem.W.nsIn K mainGlobals "range" = some none)
    (no_str : PySem.W.nsIn K mainGlobals "str" = some none)
    (no_isinstance : PySem.W.nsIn K mainGlobals "isinstance" = some none)
    (no_tuple : PySem.W.nsIn K mainGlobals "tuple" = some none)
    (no_sorted : PySem.W.nsIn K mainGlobals "sorted" = some none)
    (no_set : PySem.W.nsIn K mainGlobals "set" = some none)
    (no_enumerate : PySem.W.nsIn K mainGlobals "enumerate" = some none)
    (no_zip : PySem.W.nsIn K mainGlobals "zip" = some none)
    (pg : PySem.W.plainGet K C Str.empty = true)
    (hd : PySem.W.hasDictIn K C = true)
    (po : PySem.W.plainOver K C = true)
    (fd_C_setattr : PySem.W.findIn K (.ref C) "__setattr__" = some (some (.builtin "object.__setattr__")))
    (fd_C_reading : PySem.W.findIn K (.ref C) "reading" = some none)
    (fd_C_writing : PySem.W.findIn K (.ref C) "writing" = some none)
    (fd_C_device : PySem.W.findIn K (.ref C) "device" = some none)
    (fd_C_states : PySem.W.findIn K (.ref C) "states" = some none)
    (fd_C_class : PySem.W.findIn K (.ref C) "__class__" = some (some (.builtin "object.__class__")))
    (fd_C_ne : PySem.W.findIn K (.ref C) "__ne__" = some (some (.builtin "object.__ne__")))
    (isG : PySem.W.specialIn K (.builtin "object.__class__") "__get__" = some (some (.builtin "getset_descriptor.__get__")))
    (isT : PySem.W.takesIn K (.builtin "object.__class__") = some true)
    (isM : PySem.W.mroIn K C (.type "object") = some true)
    (mk : PySem.W.makesIn K C = true)
    (kc : PySem.W.keepIn K (.ref C) = true)
    (mcT : PySem.W.typeIn K (.ref C) = some mc)
    (rdI : PySem.W.readsIn K C mc = true)
    (gaI : PySem.W.specialIn K (.ref C) "__getattribute__" = some (some (.builtin "type.__getattribute__")))
    (v_READINGS : PySem.W.findCls K (.ref C) mc "READINGS" = some (.val (.ref aR)))
    (q_aR : K.lookup aR = some ⟨.type "tuple", ddt1, .seq #[.str "keep" u2, .str "take" u3] nnt1, sst1⟩)
    (v_WRITINGS : PySem.W.findCls K (.ref C) mc "WRITINGS" = some (.val (.ref bW)))
    (q_bW : K.lookup bW = some ⟨.type "tuple", ddt4, .seq #[.str "store" u5, .str "clear1" u6, .str "clear0" u7, .str "set1" u8, .str "flip1" u9, .str "once" u10, .str "none" u11] nnt4, sst4⟩)
    (v_DEVICES : PySem.W.findCls K (.ref C) mc "DEVICES" = some (.val (.ref aD)))
    (q_aD : K.lookup aD = some ⟨.type "tuple", ddt12, .seq #[.str "still" u13, .str "raise" u14, .str "end" u15, .str "drift" u16] nnt12, sst12⟩)
    (lW : K.lookup aW = some ⟨.type "dict", none, .dict esW nW_, #[]⟩)
    (lI : K.lookup aI = some ⟨.type "dict", none, .dict esI nI_, #[]⟩)
    (kW : PySem.W.KeysLit w.params esW.toList)
    (kI : PySem.W.KeysLit w.params esI.toList)
    (g_w_store : PySem.W.nsIn K aW "store" = some (some (.ref w_store)))
    (q_w_store : K.lookup w_store = some ⟨.type "tuple", ddt17, .seq #[.ref w_storea, .ref w_storeb] nnt17, sst17⟩)
    (q_w_storea : K.lookup w_storea = some ⟨.type "tuple", ddt18, .seq #[.int 0 u19, .int 1 u20] nnt18, sst18⟩)
    (q_w_storeb : K.lookup w_storeb = some ⟨.type "tuple", ddt21, .seq #[.int 0 u22, .int 1 u23] nnt21, sst21⟩)
    (g_w_clear1 : PySem.W.nsIn K aW "clear1" = some (some (.ref w_clear1)))
    (q_w_clear1 : K.lookup w_clear1 = some ⟨.type "tuple", ddt24, .seq #[.ref w_clear1a, .ref w_clear1b] nnt24, sst24⟩)
    (q_w_clear1a : K.lookup w_clear1a = some ⟨.type "tuple", ddt25, .seq #[.int 0 u26, .int 0 u27] nnt25, sst25⟩)
    (q_w_clear1b : K.lookup w_clear1b = some ⟨.type "tuple", ddt28, .seq #[.int 1 u29, .int 0 u30] nnt28, sst28⟩)
    (g_w_clear0 : PySem.W.nsIn K aW "clear0" = some (some (.ref w_clear0)))
    (q_w_clear0 : K.lookup w_clear0 = some ⟨.type "tuple", ddt31, .seq #[.ref w_clear0a, .ref w_clear0b] nnt31, sst31⟩)
    (q_w_clear0a : K.lookup w_clear0a = some ⟨.type "tuple", ddt32, .seq #[.int 0 u33, .int 0 u34] nnt32, sst32⟩)
    (q_w_clear0b : K.lookup w_clear0b = some ⟨.type "tuple", ddt35, .seq #[.int 0 u36, .int 1 u37] nnt35, sst35⟩)
    (g_w_set1 : PySem.W.nsIn K aW "set1" = some (some (.ref w_set1)))
    (q_w_set1 : K.lookup w_set1 = some ⟨.type "tuple", ddt38, .seq #[.ref w_set1a, .ref w_set1b] nnt38, sst38⟩)
    (q_w_set1a : K.lookup w_set1a = some ⟨.type "tuple", ddt39, .seq #[.int 0 u40, .int 1 u41] nnt39, sst39⟩)
    (q_w_set1b : K.lookup w_set1b = some ⟨.type "tuple", ddt42, .seq #[.int 1 u43, .int 1 u44] nnt42, sst42⟩)
    (g_w_flip1 : PySem.W.nsIn K aW "flip1" = some (some (.ref w_flip1)))
    (q_w_flip1 : K.lookup w_flip1 = some ⟨.type "tuple", ddt45, .seq #[.ref w_flip1a, .ref w_flip1b] nnt45, sst45⟩)
    (q_w_flip1a : K.lookup w_flip1a = some ⟨.type "tuple", ddt46, .seq #[.int 0 u47, .int 1 u48] nnt46, sst46⟩)
    (q_w_flip1b : K.lookup w_flip1b = some ⟨.type "tuple", ddt49, .seq #[.int 1 u50, .int 0 u51] nnt49, sst49⟩)
    (g_w_once : PySem.W.nsIn K aW "once" = some (some (.ref w_once)))
    (q_w_once : K.lookup w_once = some ⟨.type "tuple", ddt52, .seq #[.ref w_oncea, .ref w_onceb] nnt52, sst52⟩)
    (q_w_oncea : K.lookup w_oncea = some ⟨.type "tuple", ddt53, .seq #[.int 2 u54, .int 3 u55] nnt53, sst53⟩)
    (q_w_onceb : K.lookup w_onceb = some ⟨.type "tuple", ddt56, .seq #[.int 2 u57, .int 3 u58] nnt56, sst56⟩)
    (g_w_none : PySem.W.nsIn K aW "none" = some (some (.ref w_none)))
    (q_w_none : K.lookup w_none = some ⟨.type "tuple", ddt59, .seq #[.ref w_nonea, .ref w_noneb] nnt59, sst59⟩)
    (q_w_nonea : K.lookup w_nonea = some ⟨.type "tuple", ddt60, .seq #[.int 0 u61, .int 0 u62] nnt60, sst60⟩)
    (q_w_noneb : K.lookup w_noneb = some ⟨.type "tuple", ddt63, .seq #[.int 1 u64, .int 1 u65] nnt63, sst63⟩)
    (g_i_still : PySem.W.nsIn K aI "still" = some (some (.ref i_still)))
    (q_i_still : K.lookup i_still = some ⟨.type "tuple", ddt66, .seq #[] nnt66, sst66⟩)
    (g_i_raise : PySem.W.nsIn K aI "raise" = some (some (.ref i_raise)))
    (q_i_raise : K.lookup i_raise = some ⟨.type "tuple", ddt67, .seq #[.int 0 u68] nnt67, sst67⟩)
    (g_i_end : PySem.W.nsIn K aI "end" = some (some (.ref i_end)))
    (q_i_end : K.lookup i_end = some ⟨.type "tuple", ddt69, .seq #[.int 1 u70] nnt69, sst69⟩)
    (g_i_drift : PySem.W.nsIn K aI "drift" = some (some (.ref i_drift)))
    (q_i_drift : K.lookup i_drift = some ⟨.type "tuple", ddt71, .seq #[.int 0 u72, .int 1 u73] nnt71, sst71⟩)
    (a_Kind___init__ : PySem.W.findIn K (.ref C) "__init__" = some (some (.ref m_Kind_init)))
    (i_Kind___init__ : PySem.W.isFn K (.ref m_Kind_init) = true)
    (l_Kind___init__ : K.lookup m_Kind_init = some ⟨ocv74, odv74, .func (PySem.W.fnOf "__init__" "Kind.__init__" (defArgs s_Kind___init__) (defBody s_Kind___init__) (defScope s_Kind___init__) .none kVv74 dcv74 pmv74 anv74 cdv74 ctv74), slv74⟩)
    (c_Kind___init__ : PySem.W.codeIn K cdv74 "Kind.__init__" = true)
    (k_Kind___init__ : PySem.W.keepIn K (.ref m_Kind_init) = true)
    (a_Kind_after_read : PySem.W.findIn K (.ref C) "after_read" = some (some (.ref m_Kind_after_read)))
    (i_Kind_after_read : PySem.W.isFn K (.ref m_Kind_after_read) = true)
    (l_Kind_after_read : K.lookup m_Kind_after_read = some ⟨ocv75, odv75, .func (PySem.W.fnOf "after_read" "Kind.after_read" (defArgs s_Kind_after_read) (defBody s_Kind_after_read) (defScope s_Kind_after_read) .none kVv75 dcv75 pmv75 anv75 cdv75 ctv75), slv75⟩)
    (c_Kind_after_read : PySem.W.codeIn K cdv75 "Kind.after_read" = true)
    (k_Kind_after_read : PySem.W.keepIn K (.ref m_Kind_after_read) = true)
    (a_Kind_after_write : PySem.W.findIn K (.ref C) "after_write" = some (some (.ref m_Kind_after_write)))
    (i_Kind_after_write : PySem.W.isFn K (.ref m_Kind_after_write) = true)
    (l_Kind_after_write : K.lookup m_Kind_after_write = some ⟨ocv76, odv76, .func (PySem.W.fnOf "after_write" "Kind.after_write" (defArgs s_Kind_after_write) (defBody s_Kind_after_write) (defScope s_Kind_after_write) .none kVv76 dcv76 pmv76 anv76 cdv76 ctv76), slv76⟩)
    (c_Kind_after_write : PySem.W.codeIn K cdv76 "Kind.after_write" = true)
    (k_Kind_after_write : PySem.W.keepIn K (.ref m_Kind_after_write) = true)
    (a_Kind_unguarded : PySem.W.findIn K (.ref C) "unguarded" = some (some (.ref m_Kind_unguarded)))
    (i_Kind_unguarded : PySem.W.isFn K (.ref m_Kind_unguarded) = true)
    (l_Kind_unguarded : K.lookup m_Kind_unguarded = some ⟨ocv77, odv77, .func (PySem.W.fnOf "unguarded" "Kind.unguarded" (defArgs s_Kind_unguarded) (defBody s_Kind_unguarded) (defScope s_Kind_unguarded) .none kVv77 dcv77 pmv77 anv77 cdv77 ctv77), slv77⟩)
    (c_Kind_unguarded : PySem.W.codeIn K cdv77 "Kind.unguarded" = true)
    (k_Kind_unguarded : PySem.W.keepIn K (.ref m_Kind_unguarded) = true)
    (a_Kind_deeds : PySem.W.findIn K (.ref C) "deeds" = some (some (.ref m_Kind_deeds)))
    (i_Kind_deeds : PySem.W.isFn K (.ref m_Kind_deeds) = true)
    (l_Kind_deeds : K.lookup m_Kind_deeds = some ⟨ocv78, odv78, .func (PySem.W.fnOf "deeds" "Kind.deeds" (defArgs s_Kind_deeds) (defBody s_Kind_deeds) (defScope s_Kind_deeds) .none kVv78 dcv78 pmv78 anv78 cdv78 ctv78), slv78⟩)
    (c_Kind_deeds : PySem.W.codeIn K cdv78 "Kind.deeds" = true)
    (k_Kind_deeds : PySem.W.keepIn K (.ref m_Kind_deeds) = true)
    (a_Kind___eq__ : PySem.W.findIn K (.ref C) "__eq__" = some (some (.ref m_Kind_eq)))
    (i_Kind___eq__ : PySem.W.isFn K (.ref m_Kind_eq) = true)
    (l_Kind___eq__ : K.lookup m_Kind_eq = some ⟨ocv79, odv79, .func (PySem.W.fnOf "__eq__" "Kind.__eq__" (defArgs s_Kind___eq__) (defBody s_Kind___eq__) (defScope s_Kind___eq__) .none kVv79 dcv79 pmv79 anv79 cdv79 ctv79), slv79⟩)
    (c_Kind___eq__ : PySem.W.codeIn K cdv79 "Kind.__eq__" = true)
    (k_Kind___eq__ : PySem.W.keepIn K (.ref m_Kind_eq) = true)
    (a_Kind___str__ : PySem.W.findIn K (.ref C) "__str__" = some (some (.ref m_Kind_str)))
    (i_Kind___str__ : PySem.W.isFn K (.ref m_Kind_str) = true)
    (l_Kind___str__ : K.lookup m_Kind_str = some ⟨ocv80, odv80, .func (PySem.W.fnOf "__str__" "Kind.__str__" (defArgs s_Kind___str__) (defBody s_Kind___str__) (defScope s_Kind___str__) .none kVv80 dcv80 pmv80 anv80 cdv80 ctv80), slv80⟩)
    (c_Kind___str__ : PySem.W.codeIn K cdv80 "Kind.__str__" = true)
    (k_Kind___str__ : PySem.W.keepIn K (.ref m_Kind_str) = true)
    (pgE : PySem.W.plainGet K CE Str.empty = true)
    (hdE : PySem.W.hasDictIn K CE = true)
    (poE : PySem.W.plainOver K CE = true)
    (fd_CE_setattr : PySem.W.findIn K (.ref CE) "__setattr__" = some (some (.builtin "object.__setattr__")))
    (fd_CE_kind : PySem.W.findIn K (.ref CE) "kind" = some none)
    (fd_CE_ends : PySem.W.findIn K (.ref CE) "ends" = some none)
    (fd_CE_class : PySem.W.findIn K (.ref CE) "__class__" = some (some (.builtin "object.__class__")))
    (fd_CE_ne : PySem.W.findIn K (.ref CE) "__ne__" = some (some (.builtin "object.__ne__")))
    (isME : PySem.W.mroIn K CE (.type "object") = some true)
    (mkE : PySem.W.makesIn K CE = true)
    (kcE : PySem.W.keepIn K (.ref CE) = true)
    (mcET : PySem.W.typeIn K (.ref CE) = some mcE)
    (rdE : PySem.W.readsIn K CE mcE = true)
    (gaE : PySem.W.specialIn K (.ref CE) "__getattribute__" = some (some (.builtin "type.__getattribute__")))
    (a_Effect___init__ : PySem.W.findIn K (.ref CE) "__init__" = some (some (.ref m_Effect_init)))
    (i_Effect___init__ : PySem.W.isFn K (.ref m_Effect_init) = true)
    (l_Effect___init__ : K.lookup m_Effect_init = some ⟨ocv81, odv81, .func (PySem.W.fnOf "__init__" "Effect.__init__" (defArgs s_Effect___init__) (defBody s_Effect___init__) (defScope s_Effect___init__) .none kVv81 dcv81 pmv81 anv81 cdv81 ctv81), slv81⟩)
    (c_Effect___init__ : PySem.W.codeIn K cdv81 "Effect.__init__" = true)
    (k_Effect___init__ : PySem.W.keepIn K (.ref m_Effect_init) = true)
    (a_Effect___call__ : PySem.W.findIn K (.ref CE) "__call__" = some (some (.ref m_Effect_call)))
    (i_Effect___call__ : PySem.W.isFn K (.ref m_Effect_call) = true)
    (l_Effect___call__ : K.lookup m_Effect_call = some ⟨ocv82, odv82, .func (PySem.W.fnOf "__call__" "Effect.__call__" (defArgs s_Effect___call__) (defBody s_Effect___call__) (defScope s_Effect___call__) .none kVv82 dcv82 pmv82 anv82 cdv82 ctv82), slv82⟩)
    (c_Effect___call__ : PySem.W.codeIn K cdv82 "Effect.__call__" = true)
    (k_Effect___call__ : PySem.W.keepIn K (.ref m_Effect_call) = true)
    (a_Effect___eq__ : PySem.W.findIn K (.ref CE) "__eq__" = some (some (.ref m_Effect_eq)))
    (i_Effect___eq__ : PySem.W.isFn K (.ref m_Effect_eq) = true)
    (l_Effect___eq__ : K.lookup m_Effect_eq = some ⟨ocv83, odv83, .func (PySem.W.fnOf "__eq__" "Effect.__eq__" (defArgs s_Effect___eq__) (defBody s_Effect___eq__) (defScope s_Effect___eq__) .none kVv83 dcv83 pmv83 anv83 cdv83 ctv83), slv83⟩)
    (c_Effect___eq__ : PySem.W.codeIn K cdv83 "Effect.__eq__" = true)
    (k_Effect___eq__ : PySem.W.keepIn K (.ref m_Effect_eq) = true)
    (a_Effect___mul__ : PySem.W.findIn K (.ref CE) "__mul__" = some (some (.ref m_Effect_mul)))
    (i_Effect___mul__ : PySem.W.isFn K (.ref m_Effect_mul) = true)
    (l_Effect___mul__ : K.lookup m_Effect_mul = some ⟨ocv84, odv84, .func (PySem.W.fnOf "__mul__" "Effect.__mul__" (defArgs s_Effect___mul__) (defBody s_Effect___mul__) (defScope s_Effect___mul__) .none kVv84 dcv84 pmv84 anv84 cdv84 ctv84), slv84⟩)
    (c_Effect___mul__ : PySem.W.codeIn K cdv84 "Effect.__mul__" = true)
    (k_Effect___mul__ : PySem.W.keepIn K (.ref m_Effect_mul) = true)
    (a_Effect___or__ : PySem.W.findIn K (.ref CE) "__or__" = some (some (.ref m_Effect_or)))
    (i_Effect___or__ : PySem.W.isFn K (.ref m_Effect_or) = true)
    (l_Effect___or__ : K.lookup m_Effect_or = some ⟨ocv85, odv85, .func (PySem.W.fnOf "__or__" "Effect.__or__" (defArgs s_Effect___or__) (defBody s_Effect___or__) (defScope s_Effect___or__) .none kVv85 dcv85 pmv85 anv85 cdv85 ctv85), slv85⟩)
    (c_Effect___or__ : PySem.W.codeIn K cdv85 "Effect.__or__" = true)
    (k_Effect___or__ : PySem.W.keepIn K (.ref m_Effect_or) = true)
    (a_Effect_within : PySem.W.findIn K (.ref CE) "within" = some (some (.ref m_Effect_within)))
    (i_Effect_within : PySem.W.isFn K (.ref m_Effect_within) = true)
    (l_Effect_within : K.lookup m_Effect_within = some ⟨ocv86, odv86, .func (PySem.W.fnOf "within" "Effect.within" (defArgs s_Effect_within) (defBody s_Effect_within) (defScope s_Effect_within) .none kVv86 dcv86 pmv86 anv86 cdv86 ctv86), slv86⟩)
    (c_Effect_within : PySem.W.codeIn K cdv86 "Effect.within" = true)
    (k_Effect_within : PySem.W.keepIn K (.ref m_Effect_within) = true)
    (fnEC : PySem.W.fnIn K m_Effect_call = true)
    (fcOF : PySem.W.findCls K (.ref CE) mcE "of" = some (.get (.builtin "classmethod.__get__") (.ref pOF) .none (.ref CE)))
    (lpOF : K.lookup pOF = some ⟨.type "classmethod", ddOF, .fields vsOF, ssOF⟩)
    (vOF : vsOF.toList = .ref gOF :: rsOF)
    (l_OF : K.lookup gOF = some ⟨ocOF, odOF, .func (PySem.W.fnOf "of" "Effect.of" (defArgs s_Effect_of) (defBody s_Effect_of) (defScope s_Effect_of) .none (.ref kdOF) dcOF pmOF anOF cdOF ctOF), slOF⟩)
    (c_OF : PySem.W.codeIn K cdOF "Effect.of" = true)
    (k_OF : PySem.W.keepIn K (.ref gOF) = true)
    (fnOF : PySem.W.fnIn K gOF = true)
    (nkOF : PySem.W.nsIn K kdOF "quiet" = some (some (.bool false)))
    (no_ValueError : PySem.W.nsIn K mainGlobals "ValueError" = some none)
    (no_super : PySem.W.nsIn K mainGlobals "super" = some none)
    (no_all : PySem.W.nsIn K mainGlobals "all" = some none)
    (sfE : PySem.W.selfFirst K CE = true)
    (tyCE : PySem.W.typeIn K (.ref CE) = some (.type "type"))
    (sn_int : PySem.W.subIn K (.type "int") (.ref CE) = some false)
    (nf_int : PySem.W.notFirst K CE (.type "int") = true)
    (sn_str : PySem.W.subIn K (.type "str") (.ref CE) = some false)
    (nf_str : PySem.W.notFirst K CE (.type "str") = true)
    (sn_tuple : PySem.W.subIn K (.type "tuple") (.ref CE) = some false)
    (nf_tuple : PySem.W.notFirst K CE (.type "tuple") = true)
    (n_BitError : PySem.W.nsIn K mainGlobals "BitError" = some (some (.ref BE)))
    (sBB : PySem.W.subIn K (.ref BE) (.type "BaseException") = some true)
    (hBE : PySem.W.hasDictIn K BE = true)
    (tBE : PySem.W.typeIn K (.ref BE) = some (.type "type"))
    (n_InvalidWidth : PySem.W.nsIn K mainGlobals "InvalidWidth" = some (some (.ref E0)))
    (n_InvalidLane : PySem.W.nsIn K mainGlobals "InvalidLane" = some (some (.ref E1)))
    (n_InvalidWord : PySem.W.nsIn K mainGlobals "InvalidWord" = some (some (.ref E2)))
    (n_InvalidShift : PySem.W.nsIn K mainGlobals "InvalidShift" = some (some (.ref E3)))
    (n_InvalidKind : PySem.W.nsIn K mainGlobals "InvalidKind" = some (some (.ref E4)))
    (n_InvalidLetters : PySem.W.nsIn K mainGlobals "InvalidLetters" = some (some (.ref E5)))
    (hD0 : PySem.W.hasDictIn K E0 = true)
    (ty0 : PySem.W.typeIn K (.ref E0) = some (.type "type"))
    (hD1 : PySem.W.hasDictIn K E1 = true)
    (ty1 : PySem.W.typeIn K (.ref E1) = some (.type "type"))
    (hD2 : PySem.W.hasDictIn K E2 = true)
    (ty2 : PySem.W.typeIn K (.ref E2) = some (.type "type"))
    (hD3 : PySem.W.hasDictIn K E3 = true)
    (ty3 : PySem.W.typeIn K (.ref E3) = some (.type "type"))
    (hD4 : PySem.W.hasDictIn K E4 = true)
    (ty4 : PySem.W.typeIn K (.ref E4) = some (.type "type"))
    (hD5 : PySem.W.hasDictIn K E5 = true)
    (ty5 : PySem.W.typeIn K (.ref E5) = some (.type "type"))
    (sE0 : PySem.W.subIn K (.ref E0) (.ref BE) = some true)
    (fd_E0_getattribute : PySem.W.findIn K (.ref E0) "__getattribute__" = some (some (.builtin "BaseException.__getattribute__")))
    (fd_E0_getattr : PySem.W.findIn K (.ref E0) "__getattr__" = some none)
    (sB0 : PySem.W.subIn K (.ref E0) (.type "BaseException") = some true)
    (fd_E0_class : PySem.W.findIn K (.ref E0) "__class__" = some (some (.builtin "object.__class__")))
    (mO0 : PySem.W.mroIn K E0 (.type "object") = some true)
    (fd_E0_value : PySem.W.findIn K (.ref E0) "value" = some none)
    (sV0 : PySem.W.subIn K (.ref E0) (.type "ValueError") = some true)
    (s01 : PySem.W.subIn K (.ref E0) (.ref E1) = some false)
    (ne01 : (Value.ref E0 == Value.ref E1) = false)
    (s02 : PySem.W.subIn K (.ref E0) (.ref E2) = some false)
    (ne02 : (Value.ref E0 == Value.ref E2) = false)
    (s03 : PySem.W.subIn K (.ref E0) (.ref E3) = some false)
    (ne03 : (Value.ref E0 == Value.ref E3) = false)
    (s04 : PySem.W.subIn K (.ref E0) (.ref E4) = some false)
    (ne04 : (Value.ref E0 == Value.ref E4) = false)
    (s05 : PySem.W.subIn K (.ref E0) (.ref E5) = some false)
    (ne05 : (Value.ref E0 == Value.ref E5) = false)
    (sE1 : PySem.W.subIn K (.ref E1) (.ref BE) = some true)
    (fd_E1_getattribute : PySem.W.findIn K (.ref E1) "__getattribute__" = some (some (.builtin "BaseException.__getattribute__")))
    (fd_E1_getattr : PySem.W.findIn K (.ref E1) "__getattr__" = some none)
    (sB1 : PySem.W.subIn K (.ref E1) (.type "BaseException") = some true)
    (fd_E1_class : PySem.W.findIn K (.ref E1) "__class__" = some (some (.builtin "object.__class__")))
    (mO1 : PySem.W.mroIn K E1 (.type "object") = some true)
    (fd_E1_value : PySem.W.findIn K (.ref E1) "value" = some none)
    (sV1 : PySem.W.subIn K (.ref E1) (.type "ValueError") = some true)
    (s10 : PySem.W.subIn K (.ref E1) (.ref E0) = some false)
    (ne10 : (Value.ref E1 == Value.ref E0) = false)
    (s12 : PySem.W.subIn K (.ref E1) (.ref E2) = some false)
    (ne12 : (Value.ref E1 == Value.ref E2) = false)
    (s13 : PySem.W.subIn K (.ref E1) (.ref E3) = some false)
    (ne13 : (Value.ref E1 == Value.ref E3) = false)
    (s14 : PySem.W.subIn K (.ref E1) (.ref E4) = some false)
    (ne14 : (Value.ref E1 == Value.ref E4) = false)
    (s15 : PySem.W.subIn K (.ref E1) (.ref E5) = some false)
    (ne15 : (Value.ref E1 == Value.ref E5) = false)
    (sE2 : PySem.W.subIn K (.ref E2) (.ref BE) = some true)
    (fd_E2_getattribute : PySem.W.findIn K (.ref E2) "__getattribute__" = some (some (.builtin "BaseException.__getattribute__")))
    (fd_E2_getattr : PySem.W.findIn K (.ref E2) "__getattr__" = some none)
    (sB2 : PySem.W.subIn K (.ref E2) (.type "BaseException") = some true)
    (fd_E2_class : PySem.W.findIn K (.ref E2) "__class__" = some (some (.builtin "object.__class__")))
    (mO2 : PySem.W.mroIn K E2 (.type "object") = some true)
    (fd_E2_value : PySem.W.findIn K (.ref E2) "value" = some none)
    (sV2 : PySem.W.subIn K (.ref E2) (.type "ValueError") = some true)
    (s20 : PySem.W.subIn K (.ref E2) (.ref E0) = some false)
    (ne20 : (Value.ref E2 == Value.ref E0) = false)
    (s21 : PySem.W.subIn K (.ref E2) (.ref E1) = some false)
    (ne21 : (Value.ref E2 == Value.ref E1) = false)
    (s23 : PySem.W.subIn K (.ref E2) (.ref E3) = some false)
    (ne23 : (Value.ref E2 == Value.ref E3) = false)
    (s24 : PySem.W.subIn K (.ref E2) (.ref E4) = some false)
    (ne24 : (Value.ref E2 == Value.ref E4) = false)
    (s25 : PySem.W.subIn K (.ref E2) (.ref E5) = some false)
    (ne25 : (Value.ref E2 == Value.ref E5) = false)
    (sE3 : PySem.W.subIn K (.ref E3) (.ref BE) = some true)
    (fd_E3_getattribute : PySem.W.findIn K (.ref E3) "__getattribute__" = some (some (.builtin "BaseException.__getattribute__")))
    (fd_E3_getattr : PySem.W.findIn K (.ref E3) "__getattr__" = some none)
    (sB3 : PySem.W.subIn K (.ref E3) (.type "BaseException") = some true)
    (fd_E3_class : PySem.W.findIn K (.ref E3) "__class__" = some (some (.builtin "object.__class__")))
    (mO3 : PySem.W.mroIn K E3 (.type "object") = some true)
    (fd_E3_value : PySem.W.findIn K (.ref E3) "value" = some none)
    (sV3 : PySem.W.subIn K (.ref E3) (.type "ValueError") = some true)
    (s30 : PySem.W.subIn K (.ref E3) (.ref E0) = some false)
    (ne30 : (Value.ref E3 == Value.ref E0) = false)
    (s31 : PySem.W.subIn K (.ref E3) (.ref E1) = some false)
    (ne31 : (Value.ref E3 == Value.ref E1) = false)
    (s32 : PySem.W.subIn K (.ref E3) (.ref E2) = some false)
    (ne32 : (Value.ref E3 == Value.ref E2) = false)
    (s34 : PySem.W.subIn K (.ref E3) (.ref E4) = some false)
    (ne34 : (Value.ref E3 == Value.ref E4) = false)
    (s35 : PySem.W.subIn K (.ref E3) (.ref E5) = some false)
    (ne35 : (Value.ref E3 == Value.ref E5) = false)
    (sE4 : PySem.W.subIn K (.ref E4) (.ref BE) = some true)
    (fd_E4_getattribute : PySem.W.findIn K (.ref E4) "__getattribute__" = some (some (.builtin "BaseException.__getattribute__")))
    (fd_E4_getattr : PySem.W.findIn K (.ref E4) "__getattr__" = some none)
    (sB4 : PySem.W.subIn K (.ref E4) (.type "BaseException") = some true)
    (fd_E4_class : PySem.W.findIn K (.ref E4) "__class__" = some (some (.builtin "object.__class__")))
    (mO4 : PySem.W.mroIn K E4 (.type "object") = some true)
    (fd_E4_value : PySem.W.findIn K (.ref E4) "value" = some none)
    (sV4 : PySem.W.subIn K (.ref E4) (.type "ValueError") = some true)
    (s40 : PySem.W.subIn K (.ref E4) (.ref E0) = some false)
    (ne40 : (Value.ref E4 == Value.ref E0) = false)
    (s41 : PySem.W.subIn K (.ref E4) (.ref E1) = some false)
    (ne41 : (Value.ref E4 == Value.ref E1) = false)
    (s42 : PySem.W.subIn K (.ref E4) (.ref E2) = some false)
    (ne42 : (Value.ref E4 == Value.ref E2) = false)
    (s43 : PySem.W.subIn K (.ref E4) (.ref E3) = some false)
    (ne43 : (Value.ref E4 == Value.ref E3) = false)
    (s45 : PySem.W.subIn K (.ref E4) (.ref E5) = some false)
    (ne45 : (Value.ref E4 == Value.ref E5) = false)
    (fBE : PySem.W.findIn K (.ref BE) "__init__" = some (some (.builtin "ValueError.__init__")))
    (cBE : PySem.W.clsIn K BE = some cdB)
    (opq : PySem.W.nsIn K cStatics "thirdparty.any" = some none)
    (topE : (l.prog.main.scope.names.lookup ("super" : Str)).isSome = false)
    (clE4 : K.lookup E4 = some (excClassObj nmE4 qE4 E4 NE4 bsE4 bmE4 true snE4 subE4 abE4 colE4 ddE4 j0_4 j1_4 j2_4 j3_4 j5_4 "ValueError.__new__"))
    (veE4 : PySem.HandSPX.refsVE bmE4 = true)
    (fd_E4_setattr : PySem.W.findIn K (.ref E4) "__setattr__" = some (some (.builtin "object.__setattr__")))
    (kE4 : PySem.W.keepIn K (.ref E4) = true)
    (iniE4 : PySem.W.findIn K (.ref E4) "__init__" = some (some (.ref fI4)))
    (fnE4 : PySem.W.typeIn K (.ref fI4) = some (.type "function"))
    (lE4 : K.lookup fI4 = some ⟨ocE4, odE4, .func (PySem.W.ksFn "__init__" "InvalidKind.__init__" (defArgs s_InvalidKind___init__) (defBody s_InvalidKind___init__) (defScope s_InvalidKind___init__) .none kVE4 dcE4 pmE4 anE4 (.ref cda4) ctE4 cc4), slE4⟩)
    (cE4 : PySem.W.codeIn K (.ref cda4) "InvalidKind.__init__" = true)
    (lC4 : K.lookup cda4 = some ⟨ccl4, cdd4, .fields vsE4, ccs4⟩)
    (vE4 : vsE4[2]? = some (.str fileE4 tfE4))
    (fE4 : ((l.prog.main.file : Str) == fileE4) = true)
    (lcc4 : K.lookup cc4 = some ⟨ccv4, cld4, .cell (some (.ref E4)), csl4⟩)
    (mE4 : PySem.W.mroIn K E4 (.ref E4) = some true)
    (mBE4 : bmE4 = cdB.mro)
    (n_check_letters : PySem.W.nsIn K mainGlobals "check_letters" = some (some (.ref f_check_letters)))
    (l_check_letters : K.lookup f_check_letters = some ⟨ocv87, odv87, .func (PySem.W.fnOf "check_letters" "check_letters" (defArgs s_check_letters) (defBody s_check_letters) (defScope s_check_letters) .none kVv87 dcv87 pmv87 anv87 cdv87 ctv87), slv87⟩)
    (c_check_letters : PySem.W.codeIn K cdv87 "check_letters" = true)
    (k_check_letters : PySem.W.keepIn K (.ref f_check_letters) = true)
    (n_check_same_kind : PySem.W.nsIn K mainGlobals "check_same_kind" = some (some (.ref f_check_same_kind)))
    (l_check_same_kind : K.lookup f_check_same_kind = some ⟨ocv88, odv88, .func (PySem.W.fnOf "check_same_kind" "check_same_kind" (defArgs s_check_same_kind) (defBody s_check_same_kind) (defScope s_check_same_kind) .none kVv88 dcv88 pmv88 anv88 cdv88 ctv88), slv88⟩)
    (c_check_same_kind : PySem.W.codeIn K cdv88 "check_same_kind" = true)
    (k_check_same_kind : PySem.W.keepIn K (.ref f_check_same_kind) = true)
    (n_ends_without_letters : PySem.W.nsIn K mainGlobals "ends_without_letters" = some (some (.ref f_ends_without_letters)))
    (l_ends_without_letters : K.lookup f_ends_without_letters = some ⟨ocv89, odv89, .func (PySem.W.fnOf "ends_without_letters" "ends_without_letters" (defArgs s_ends_without_letters) (defBody s_ends_without_letters) (defScope s_ends_without_letters) .none kVv89 dcv89 pmv89 anv89 cdv89 ctv89), slv89⟩)
    (c_ends_without_letters : PySem.W.codeIn K cdv89 "ends_without_letters" = true)
    (k_ends_without_letters : PySem.W.keepIn K (.ref f_ends_without_letters) = true)
    (n_ends_of_letter : PySem.W.nsIn K mainGlobals "ends_of_letter" = some (some (.ref f_ends_of_letter)))
    (l_ends_of_letter : K.lookup f_ends_of_letter = some ⟨ocv90, odv90, .func (PySem.W.fnOf "ends_of_letter" "ends_of_letter" (defArgs s_ends_of_letter) (defBody s_ends_of_letter) (defScope s_ends_of_letter) .none kVv90 dcv90 pmv90 anv90 cdv90 ctv90), slv90⟩)
    (c_ends_of_letter : PySem.W.codeIn K cdv90 "ends_of_letter" = true)
    (k_ends_of_letter : PySem.W.keepIn K (.ref f_ends_of_letter) = true)
    (n_joined : PySem.W.nsIn K mainGlobals "joined" = some (some (.ref f_joined)))
    (l_joined : K.lookup f_joined = some ⟨ocv91, odv91, .func (PySem.W.fnOf "joined" "joined" (defArgs s_joined) (defBody s_joined) (defScope s_joined) .none kVv91 dcv91 pmv91 anv91 cdv91 ctv91), slv91⟩)
    (c_joined : PySem.W.codeIn K cdv91 "joined" = true)
    (k_joined : PySem.W.keepIn K (.ref f_joined) = true)
    (n_either : PySem.W.nsIn K mainGlobals "either" = some (some (.ref f_either)))
    (l_either : K.lookup f_either = some ⟨ocv92, odv92, .func (PySem.W.fnOf "either" "either" (defArgs s_either) (defBody s_either) (defScope s_either) .none kVv92 dcv92 pmv92 anv92 cdv92 ctv92), slv92⟩)
    (c_either : PySem.W.codeIn K cdv92 "either" = true)
    (k_either : PySem.W.keepIn K (.ref f_either) = true)
    (n_effect_parting : PySem.W.nsIn K mainGlobals "effect_parting" = some (some (.ref f_effect_parting)))
    (l_effect_parting : K.lookup f_effect_parting = some ⟨ocv93, odv93, .func (PySem.W.fnOf "effect_parting" "effect_parting" (defArgs s_effect_parting) (defBody s_effect_parting) (defScope s_effect_parting) .none kVv93 dcv93 pmv93 anv93 cdv93 ctv93), slv93⟩)
    (c_effect_parting : PySem.W.codeIn K cdv93 "effect_parting" = true)
    (k_effect_parting : PySem.W.keepIn K (.ref f_effect_parting) = true)
    (n__law_pen : PySem.W.nsIn K mainGlobals "_law_pen" = some (some (.ref f__law_pen)))
    (l__law_pen : K.lookup f__law_pen = some ⟨ocv94, odv94, .func (PySem.W.fnOf "_law_pen" "_law_pen" (defArgs s__law_pen) (defBody s__law_pen) (defScope s__law_pen) .none kVv94 dcv94 pmv94 anv94 cdv94 ctv94), slv94⟩)
    (c__law_pen : PySem.W.codeIn K cdv94 "_law_pen" = true)
    (k__law_pen : PySem.W.keepIn K (.ref f__law_pen) = true)
    (n__law_draw : PySem.W.nsIn K mainGlobals "_law_draw" = some (some (.ref f__law_draw)))
    (l__law_draw : K.lookup f__law_draw = some ⟨ocv95, odv95, .func (PySem.W.fnOf "_law_draw" "_law_draw" (defArgs s__law_draw) (defBody s__law_draw) (defScope s__law_draw) .none kVv95 dcv95 pmv95 anv95 cdv95 ctv95), slv95⟩)
    (c__law_draw : PySem.W.codeIn K cdv95 "_law_draw" = true)
    (k__law_draw : PySem.W.keepIn K (.ref f__law_draw) = true)
    (n__law_heard : PySem.W.nsIn K mainGlobals "_law_heard" = some (some (.ref f__law_heard)))
    (l__law_heard : K.lookup f__law_heard = some ⟨ocv96, odv96, .func (PySem.W.fnOf "_law_heard" "_law_heard" (defArgs s__law_heard) (defBody s__law_heard) (defScope s__law_heard) .none kVv96 dcv96 pmv96 anv96 cdv96 ctv96), slv96⟩)
    (c__law_heard : PySem.W.codeIn K cdv96 "_law_heard" = true)
    (k__law_heard : PySem.W.keepIn K (.ref f__law_heard) = true)
    (n__law_write : PySem.W.nsIn K mainGlobals "_law_write" = some (some (.ref f__law_write)))
    (l__law_write : K.lookup f__law_write = some ⟨ocv97, odv97, .func (PySem.W.fnOf "_law_write" "_law_write" (defArgs s__law_write) (defBody s__law_write) (defScope s__law_write) .none kVv97 dcv97 pmv97 anv97 cdv97 ctv97), slv97⟩)
    (c__law_write : PySem.W.codeIn K cdv97 "_law_write" = true)
    (k__law_write : PySem.W.keepIn K (.ref f__law_write) = true)
    (n__law_read : PySem.W.nsIn K mainGlobals "_law_read" = some (some (.ref f__law_read)))
    (l__law_read : K.lookup f__law_read = some ⟨ocv98, odv98, .func (PySem.W.fnOf "_law_read" "_law_read" (defArgs s__law_read) (defBody s__law_read) (defScope s__law_read) .none kVv98 dcv98 pmv98 anv98 cdv98 ctv98), slv98⟩)
    (c__law_read : PySem.W.codeIn K cdv98 "_law_read" = true)
    (k__law_read : PySem.W.keepIn K (.ref f__law_read) = true)
    (n__law_deeds : PySem.W.nsIn K mainGlobals "_law_deeds" = some (some (.ref f__law_deeds)))
    (l__law_deeds : K.lookup f__law_deeds = some ⟨ocv99, odv99, .func (PySem.W.fnOf "_law_deeds" "_law_deeds" (defArgs s__law_deeds) (defBody s__law_deeds) (defScope s__law_deeds) .none kVv99 dcv99 pmv99 anv99 cdv99 ctv99), slv99⟩)
    (c__law_deeds : PySem.W.codeIn K cdv99 "_law_deeds" = true)
    (k__law_deeds : PySem.W.keepIn K (.ref f__law_deeds) = true)
    (n__law_words : PySem.W.nsIn K mainGlobals "_law_words" = some (some (.ref f__law_words)))
    (l__law_words : K.lookup f__law_words = some ⟨ocv100, odv100, .func (PySem.W.fnOf "_law_words" "_law_words" (defArgs s__law_words) (defBody s__law_words) (defScope s__law_words) .none kVv100 dcv100 pmv100 anv100 cdv100 ctv100), slv100⟩)
    (c__law_words : PySem.W.codeIn K cdv100 "_law_words" = true)
    (k__law_words : PySem.W.keepIn K (.ref f__law_words) = true)
    (n__law_closed : PySem.W.nsIn K mainGlobals "_law_closed" = some (some (.ref f__law_closed)))
    (l__law_closed : K.lookup f__law_closed = some ⟨ocv101, odv101, .func (PySem.W.fnOf "_law_closed" "_law_closed" (defArgs s__law_closed) (defBody s__law_closed) (defScope s__law_closed) .none kVv101 dcv101 pmv101 anv101 cdv101 ctv101), slv101⟩)
    (c__law_closed : PySem.W.codeIn K cdv101 "_law_closed" = true)
    (k__law_closed : PySem.W.keepIn K (.ref f__law_closed) = true)
    (n__law_ends : PySem.W.nsIn K mainGlobals "_law_ends" = some (some (.ref f__law_ends)))
    (l__law_ends : K.lookup f__law_ends = some ⟨ocv102, odv102, .func (PySem.W.fnOf "_law_ends" "_law_ends" (defArgs s__law_ends) (defBody s__law_ends) (defScope s__law_ends) .none kVv102 dcv102 pmv102 anv102 cdv102 ctv102), slv102⟩)
    (c__law_ends : PySem.W.codeIn K cdv102 "_law_ends" = true)
    (k__law_ends : PySem.W.keepIn K (.ref f__law_ends) = true)
    (n__law_states : PySem.W.nsIn K mainGlobals "_law_states" = some (some (.ref f__law_states)))
    (l__law_states : K.lookup f__law_states = some ⟨ocv103, odv103, .func (PySem.W.fnOf "_law_states" "_law_states" (defArgs s__law_states) (defBody s__law_states) (defScope s__law_states) .none kVv103 dcv103 pmv103 anv103 cdv103 ctv103), slv103⟩)
    (c__law_states : PySem.W.codeIn K cdv103 "_law_states" = true)
    (k__law_states : PySem.W.keepIn K (.ref f__law_states) = true)
    (n__law_letters : PySem.W.nsIn K mainGlobals "_law_letters" = some (some (.ref f__law_letters)))
    (l__law_letters : K.lookup f__law_letters = some ⟨ocv104, odv104, .func (PySem.W.fnOf "_law_letters" "_law_letters" (defArgs s__law_letters) (defBody s__law_letters) (defScope s__law_letters) .none kVv104 dcv104 pmv104 anv104 cdv104 ctv104), slv104⟩)
    (c__law_letters : PySem.W.codeIn K cdv104 "_law_letters" = true)
    (k__law_letters : PySem.W.keepIn K (.ref f__law_letters) = true)
    (n__law_rows : PySem.W.nsIn K mainGlobals "_law_rows" = some (some (.ref f__law_rows)))
    (l__law_rows : K.lookup f__law_rows = some ⟨ocv105, odv105, .func (PySem.W.fnOf "_law_rows" "_law_rows" (defArgs s__law_rows) (defBody s__law_rows) (defScope s__law_rows) .none kVv105 dcv105 pmv105 anv105 cdv105 ctv105), slv105⟩)
    (c__law_rows : PySem.W.codeIn K cdv105 "_law_rows" = true)
    (k__law_rows : PySem.W.keepIn K (.ref f__law_rows) = true)
    (n__law_told : PySem.W.nsIn K mainGlobals "_law_told" = some (some (.ref f__law_told)))
    (l__law_told : K.lookup f__law_told = some ⟨ocv106, odv106, .func (PySem.W.fnOf "_law_told" "_law_told" (defArgs s__law_told) (defBody s__law_told) (defScope s__law_told) .none kVv106 dcv106 pmv106 anv106 cdv106 ctv106), slv106⟩)
    (c__law_told : PySem.W.codeIn K cdv106 "_law_told" = true)
    (k__law_told : PySem.W.keepIn K (.ref f__law_told) = true)
    (n__law_compared : PySem.W.nsIn K mainGlobals "_law_compared" = some (some (.ref f__law_compared)))
    (l__law_compared : K.lookup f__law_compared = some ⟨ocv107, odv107, .func (PySem.W.fnOf "_law_compared" "_law_compared" (defArgs s__law_compared) (defBody s__law_compared) (defScope s__law_compared) .none kVv107 dcv107 pmv107 anv107 cdv107 ctv107), slv107⟩)
    (c__law_compared : PySem.W.codeIn K cdv107 "_law_compared" = true)
    (k__law_compared : PySem.W.keepIn K (.ref f__law_compared) = true)
    (n__law_put : PySem.W.nsIn K mainGlobals "_law_put" = some (some (.ref f__law_put)))
    (l__law_put : K.lookup f__law_put = some ⟨ocv108, odv108, .func (PySem.W.fnOf "_law_put" "_law_put" (defArgs s__law_put) (defBody s__law_put) (defScope s__law_put) .none kVv108 dcv108 pmv108 anv108 cdv108 ctv108), slv108⟩)
    (c__law_put : PySem.W.codeIn K cdv108 "_law_put" = true)
    (k__law_put : PySem.W.keepIn K (.ref f__law_put) = true)
    (n__law_mixed_right : PySem.W.nsIn K mainGlobals "_law_mixed_right" = some (some (.ref f__law_mixed_right)))
    (l__law_mixed_right : K.lookup f__law_mixed_right = some ⟨ocv109, odv109, .func (PySem.W.fnOf "_law_mixed_right" "_law_mixed_right" (defArgs s__law_mixed_right) (defBody s__law_mixed_right) (defScope s__law_mixed_right) .none kVv109 dcv109 pmv109 anv109 cdv109 ctv109), slv109⟩)
    (c__law_mixed_right : PySem.W.codeIn K cdv109 "_law_mixed_right" = true)
    (k__law_mixed_right : PySem.W.keepIn K (.ref f__law_mixed_right) = true)
    (n__law_unlike_right : PySem.W.nsIn K mainGlobals "_law_unlike_right" = some (some (.ref f__law_unlike_right)))
    (l__law_unlike_right : K.lookup f__law_unlike_right = some ⟨ocv110, odv110, .func (PySem.W.fnOf "_law_unlike_right" "_law_unlike_right" (defArgs s__law_unlike_right) (defBody s__law_unlike_right) (defScope s__law_unlike_right) .none kVv110 dcv110 pmv110 anv110 (.ref cl1) ctv110), slv110⟩)
    (c__law_unlike_right : PySem.W.codeIn K (.ref cl1) "_law_unlike_right" = true)
    (k__law_unlike_right : PySem.W.keepIn K (.ref f__law_unlike_right) = true)
    (n_law : PySem.W.nsIn K mainGlobals "law" = some (some (.ref f_law)))
    (l_law : K.lookup f_law = some ⟨ocv111, odv111, .func (PySem.W.fnOf "law" "law" (defArgs s_law) (defBody s_law) (defScope s_law) .none kVv111 dcv111 pmv111 anv111 cdv111 ctv111), slv111⟩)
    (c_law : PySem.W.codeIn K cdv111 "law" = true)
    (k_law : PySem.W.keepIn K (.ref f_law) = true)
    (lcl1 : K.lookup cl1 = some ⟨.type "code", ddl1, .fields vsl1, sll1⟩)
    (v11_1 : vsl1[11]? = some (.ref Pt1))
    (hdl1 : PySem.W.codeHdIn K cl1 Pt1 = true)
    (nPt1 : K.lookup Pt1 = none) :
    ∃ (fd : FuncData) (cs : List (Addr × Addr)) (sp : Sp), (∀ p ∈ cs, h.get? p.2 = some { cls := .none, data := .fields #[] }) ∧ (∀ p ∈ cs, K.lookup p.2 = none) ∧ (∀ p ∈ cs, PySem.W.CodeHd h p.1 p.2) ∧ (∀ (s : Shared) (v : Value), BindsTo s fd ⟨[v], []⟩ [("_law_script", v)]) ∧
      (∀ (H : Hp) (a : Addr) (ns : List Int), ns.length ≤ 63 → (∀ z ∈ ns, Builtin.Int.intBits z ≤ 1048576) → (∀ p ∈ cs, H p.2 = some (.tbl #[])) → SqL K H a (ns.map V.int) → sp [.ref a] H (fun v _ => v = .bl true) fun _ _ _ => False) ∧
      ∀ base : Heap, K.In base → base.Ns mainGlobals mg → (∀ p ∈ cs, LamX.TabB base mg p.1 p.2) → Gd l.prog w K mg base CX0 9 fa fd ["_law_script"] sp := by
  have e := hfa.symm.trans (PySem.W.mg_of X G n_law)
  cases e
  have B : Law.B1 mg := ⟨PySem.W.mg_none_of X G no_int, PySem.W.mg_none_of X G no_len, PySem.W.mg_none_of X G no_abs, PySem.W.mg_none_of X G no_list, PySem.W.mg_none_of X G no_repr, PySem.W.mg_none_of X G no_range, PySem.W.mg_none_of X G no_str, PySem.W.mg_none_of X G no_isinstance, PySem.W.mg_none_of X G no_tuple, PySem.W.mg_none_of X G no_sorted, PySem.W.mg_none_of X G no_set, PySem.W.mg_none_of X G no_enumerate, PySem.W.mg_none_of X G no_zip⟩
  have T : KT K w mg C aW aI mc := {
    g_Kind := PySem.W.mg_of X G n_Kind
    g_SPENT := ⟨_, PySem.W.mg_of X G n_SPENT⟩
    g_WRITES := PySem.W.mg_of X G n_WRITES
    g_INVERTED := PySem.W.mg_of X G n_INVERTED
    g_isinstance := PySem.W.mg_none_of X G no_isinstance
    cl := ⟨pg, hd, po, fd_C_setattr⟩
    nR := fd_C_reading
    nW := fd_C_writing
    nD := fd_C_device
    nS := fd_C_states
    rd := ⟨rdI, gaI⟩
    cR := ⟨aR, ⟨v_READINGS, rfl⟩, ktup q_aR rfl (.cons ⟨_, rfl⟩ (.cons ⟨_, rfl⟩ (.nil)))⟩
    cW := ⟨bW, ⟨v_WRITINGS, rfl⟩, ktup q_bW rfl (.cons ⟨_, rfl⟩ (.cons ⟨_, rfl⟩ (.cons ⟨_, rfl⟩ (.cons ⟨_, rfl⟩ (.cons ⟨_, rfl⟩ (.cons ⟨_, rfl⟩ (.cons ⟨_, rfl⟩ (.nil))))))))⟩
    cD := ⟨aD, ⟨v_DEVICES, rfl⟩, ktup q_aD rfl (.cons ⟨_, rfl⟩ (.cons ⟨_, rfl⟩ (.cons ⟨_, rfl⟩ (.cons ⟨_, rfl⟩ (.nil)))))⟩
    tW := fun x hx => by
      simp only [WR, List.mem_cons, List.not_mem_nil, or_false] at hx
      rcases hx with rfl | rfl | rfl | rfl | rfl | rfl | rfl
      · exact ⟨w_store, w_storea, w_storeb, ⟨esW, nW_, _, lW, kW, g_w_store, rfl⟩, ktup q_w_store rfl (.cons rfl (.cons rfl .nil)), ktup q_w_storea rfl (.cons ⟨_, rfl⟩ (.cons ⟨_, rfl⟩ .nil)), ktup q_w_storeb rfl (.cons ⟨_, rfl⟩ (.cons ⟨_, rfl⟩ .nil))⟩
      · exact ⟨w_clear1, w_clear1a, w_clear1b, ⟨esW, nW_, _, lW, kW, g_w_clear1, rfl⟩, ktup q_w_clear1 rfl (.cons rfl (.cons rfl .nil)), ktup q_w_clear1a rfl (.cons ⟨_, rfl⟩ (.cons ⟨_, rfl⟩ .nil)), ktup q_w_clear1b rfl (.cons ⟨_, rfl⟩ (.cons ⟨_, rfl⟩ .nil))⟩
      · exact ⟨w_clear0, w_clear0a, w_clear0b, ⟨esW, nW_, _, lW, kW, g_w_clear0, rfl⟩, ktup q_w_clear0 rfl (.cons rfl (.cons rfl .nil)), ktup q_w_clear0a rfl (.cons ⟨_, rfl⟩ (.cons ⟨_, rfl⟩ .nil)), ktup q_w_clear0b rfl (.cons ⟨_, rfl⟩ (.cons ⟨_, rfl⟩ .nil))⟩
      · exact ⟨w_set1, w_set1a, w_set1b, ⟨esW, nW_, _, lW, kW, g_w_set1, rfl⟩, ktup q_w_set1 rfl (.cons rfl (.cons rfl .nil)), ktup q_w_set1a rfl (.cons ⟨_, rfl⟩ (.cons ⟨_, rfl⟩ .nil)), ktup q_w_set1b rfl (.cons ⟨_, rfl⟩ (.cons ⟨_, rfl⟩ .nil))⟩
      · exact ⟨w_flip1, w_flip1a, w_flip1b, ⟨esW, nW_, _, lW, kW, g_w_flip1, rfl⟩, ktup q_w_flip1 rfl (.cons rfl (.cons rfl .nil)), ktup q_w_flip1a rfl (.cons ⟨_, rfl⟩ (.cons ⟨_, rfl⟩ .nil)), ktup q_w_flip1b rfl (.cons ⟨_, rfl⟩ (.cons ⟨_, rfl⟩ .nil))⟩
      · exact ⟨w_once, w_oncea, w_onceb, ⟨esW, nW_, _, lW, kW, g_w_once, rfl⟩, ktup q_w_once rfl (.cons rfl (.cons rfl .nil)), ktup q_w_oncea rfl (.cons ⟨_, rfl⟩ (.cons ⟨_, rfl⟩ .nil)), ktup q_w_onceb rfl (.cons ⟨_, rfl⟩ (.cons ⟨_, rfl⟩ .nil))⟩
      · exact ⟨w_none, w_nonea, w_noneb, ⟨esW, nW_, _, lW, kW, g_w_none, rfl⟩, ktup q_w_none rfl (.cons rfl (.cons rfl .nil)), ktup q_w_nonea rfl (.cons ⟨_, rfl⟩ (.cons ⟨_, rfl⟩ .nil)), ktup q_w_noneb rfl (.cons ⟨_, rfl⟩ (.cons ⟨_, rfl⟩ .nil))⟩
    tI := fun x hx => by
      simp only [DV, List.mem_cons, List.not_mem_nil, or_false] at hx
      rcases hx with rfl | rfl | rfl | rfl
      · exact ⟨i_still, ⟨esI, nI_, _, lI, kI, g_i_still, rfl⟩, ktup q_i_still rfl (.nil)⟩
      · exact ⟨i_raise, ⟨esI, nI_, _, lI, kI, g_i_raise, rfl⟩, ktup q_i_raise rfl (.cons ⟨_, rfl⟩ (.nil))⟩
      · exact ⟨i_end, ⟨esI, nI_, _, lI, kI, g_i_end, rfl⟩, ktup q_i_end rfl (.cons ⟨_, rfl⟩ (.nil))⟩
      · exact ⟨i_drift, ⟨esI, nI_, _, lI, kI, g_i_drift, rfl⟩, ktup q_i_drift rfl (.cons ⟨_, rfl⟩ (.cons ⟨_, rfl⟩ (.nil)))⟩
    isC := fd_C_class
    isG := isG
    isT := isT
    isM := isM }
  have TE : ET K mg CE := {
    g_Effect := PySem.W.mg_of X G n_Effect
    cl := ⟨pgE, hdE, poE, fd_CE_setattr⟩
    nK := fd_CE_kind
    nE := fd_CE_ends
    isC := fd_CE_class
    isM := isME }

  let ce : Nat → Addr := fun i => match i with | 0 => E0 | 1 => E1 | 2 => E2 | 3 => E3 | 4 => E4 | _ => E5
  have ER : Er K mg BE ce := {
    g_BitError := PySem.W.mg_of X G n_BitError
    g_ValueError := PySem.W.mg_none_of X G no_ValueError
    g_isinstance := PySem.W.mg_none_of X G no_isinstance
    g_repr := PySem.W.mg_none_of X G no_repr
    g_ce := fun i hi => match i, hi with | 0, _ => PySem.W.mg_of X G n_InvalidWidth | 1, _ => PySem.W.mg_of X G n_InvalidLane | 2, _ => PySem.W.mg_of X G n_InvalidWord | 3, _ => PySem.W.mg_of X G n_InvalidShift | 4, _ => PySem.W.mg_of X G n_InvalidKind | 5, _ => PySem.W.mg_of X G n_InvalidLetters
    exm := fun i hi => match i, hi with | 0, _ => PySem.W.exm_ref sBB hBE tBE sE0 | 1, _ => PySem.W.exm_ref sBB hBE tBE sE1 | 2, _ => PySem.W.exm_ref sBB hBE tBE sE2 | 3, _ => PySem.W.exm_ref sBB hBE tBE sE3 | 4, _ => PySem.W.exm_ref sBB hBE tBE sE4
    ec := fun i hi => match i, hi with | 0, _ => ⟨fd_E0_getattribute, fd_E0_getattr, sB0, hD0, fd_E0_class, isG, isT, mO0⟩ | 1, _ => ⟨fd_E1_getattribute, fd_E1_getattr, sB1, hD1, fd_E1_class, isG, isT, mO1⟩ | 2, _ => ⟨fd_E2_getattribute, fd_E2_getattr, sB2, hD2, fd_E2_class, isG, isT, mO2⟩ | 3, _ => ⟨fd_E3_getattribute, fd_E3_getattr, sB3, hD3, fd_E3_class, isG, isT, mO3⟩ | 4, _ => ⟨fd_E4_getattribute, fd_E4_getattr, sB4, hD4, fd_E4_class, isG, isT, mO4⟩
    xf := fun i hi => match i, hi with | 0, _ => ⟨fd_E0_getattribute, fd_E0_getattr, sB0, hD0⟩ | 1, _ => ⟨fd_E1_getattribute, fd_E1_getattr, sB1, hD1⟩ | 2, _ => ⟨fd_E2_getattribute, fd_E2_getattr, sB2, hD2⟩ | 3, _ => ⟨fd_E3_getattribute, fd_E3_getattr, sB3, hD3⟩ | 4, _ => ⟨fd_E4_getattribute, fd_E4_getattr, sB4, hD4⟩
    nv := fun i hi => match i, hi with | 0, _ => fd_E0_value | 1, _ => fd_E1_value | 2, _ => fd_E2_value | 3, _ => fd_E3_value | 4, _ => fd_E4_value
    kit := fun i j hi hj => match i, j, hi, hj with | 0, 0, _, _ => kit_same | 0, 1, _, _ => kit_own hD1 ty1 ne01 s01 | 0, 2, _, _ => kit_own hD2 ty2 ne02 s02 | 0, 3, _, _ => kit_own hD3 ty3 ne03 s03 | 0, 4, _, _ => kit_own hD4 ty4 ne04 s04 | 0, 5, _, _ => kit_own hD5 ty5 ne05 s05 | 1, 0, _, _ => kit_own hD0 ty0 ne10 s10 | 1, 1, _, _ => kit_same | 1, 2, _, _ => kit_own hD2 ty2 ne12 s12 | 1, 3, _, _ => kit_own hD3 ty3 ne13 s13 | 1, 4, _, _ => kit_own hD4 ty4 ne14 s14 | 1, 5, _, _ => kit_own hD5 ty5 ne15 s15 | 2, 0, _, _ => kit_own hD0 ty0 ne20 s20 | 2, 1, _, _ => kit_own hD1 ty1 ne21 s21 | 2, 2, _, _ => kit_same | 2, 3, _, _ => kit_own hD3 ty3 ne23 s23 | 2, 4, _, _ => kit_own hD4 ty4 ne24 s24 | 2, 5, _, _ => kit_own hD5 ty5 ne25 s25 | 3, 0, _, _ => kit_own hD0 ty0 ne30 s30 | 3, 1, _, _ => kit_own hD1 ty1 ne31 s31 | 3, 2, _, _ => kit_own hD2 ty2 ne32 s32 | 3, 3, _, _ => kit_same | 3, 4, _, _ => kit_own hD4 ty4 ne34 s34 | 3, 5, _, _ => kit_own hD5 ty5 ne35 s35 | 4, 0, _, _ => kit_own hD0 ty0 ne40 s40 | 4, 1, _, _ => kit_own hD1 ty1 ne41 s41 | 4, 2, _, _ => kit_own hD2 ty2 ne42 s42 | 4, 3, _, _ => kit_own hD3 ty3 ne43 s43 | 4, 4, _, _ => kit_same | 4, 5, _, _ => kit_own hD5 ty5 ne45 s45
    ve := fun i hi => match i, hi with | 0, _ => kit_ve sV0 | 1, _ => kit_ve sV1 | 2, _ => kit_ve sV2 | 3, _ => kit_ve sV3 | 4, _ => kit_ve sV4 }
  have TE4 : ErrC l.prog K E4 fI4 "InvalidKind.__init__" "value" "value" (defArgs s_InvalidKind___init__) (defBody s_InvalidKind___init__) (defScope s_InvalidKind___init__) := {
    cls := ⟨⟨_, _, _, _, _, _, _, _, _, _, _, _, _, _, _, clE4, veE4⟩, fd_E4_setattr, sB4, ty4, kE4⟩
    ini := iniE4
    fn := fnE4
    fun_ := ⟨_, _, _, _, _, _, _, _, _, _, _, _, _, _, _, _, _, _, _, lE4, cE4, lC4, vE4, fE4, lcc4⟩
    self_ := mE4
    up := sup_up clE4 cBE mBE4 fBE
    sub := sV4
    opq := opq
    nosup := no_super
    top := topE
    nofld := fd_E4_value }
  obtain ⟨tab1, code1⟩ := tab0 X tabs hr1 (PySem.W.mg_of X G n__law_unlike_right) l__law_unlike_right rfl hdl1
  refine ⟨PySem.W.fnOf "law" "law" (defArgs s_law) (defBody s_law) (defScope s_law) .none kVv111 dcv111 pmv111 anv111 cdv111 ctv111, [(cl1, Pt1)], spLaw K Pt1, fun p hp => ?_, fun p hp => ?_, fun p hp => ?_, fun s v => .of_eq rfl, fun H a ns hl _ hT hS => ⟨a, ns, rfl, hS, hl, hT (cl1, Pt1) (List.mem_singleton.mpr rfl), fun _ => rfl⟩, fun base _ _ TB => ?_⟩
  · rw [List.mem_singleton.mp hp]; exact tab1
  · rw [List.mem_singleton.mp hp]; exact nPt1
  · rw [List.mem_singleton.mp hp]; exact code1
  have Dcheck_letters := defAt_of X G n_check_letters l_check_letters c_check_letters k_check_letters bd_check_letters
  have Dcheck_same_kind := defAt_of X G n_check_same_kind l_check_same_kind c_check_same_kind k_check_same_kind bd_check_same_kind
  have Dends_without_letters := defAt_of X G n_ends_without_letters l_ends_without_letters c_ends_without_letters k_ends_without_letters bd_ends_without_letters
  have Dends_of_letter := defAt_of X G n_ends_of_letter l_ends_of_letter c_ends_of_letter k_ends_of_letter bd_ends_of_letter
  have Djoined := defAt_of X G n_joined l_joined c_joined k_joined bd_joined
  have Deither := defAt_of X G n_either l_either c_either k_either bd_either
  have Deffect_parting := defAt_of X G n_effect_parting l_effect_parting c_effect_parting k_effect_parting bd_effect_parting
  have D_law_pen := defAt_of X G n__law_pen l__law_pen c__law_pen k__law_pen bd__law_pen
  have D_law_draw := defAt_of X G n__law_draw l__law_draw c__law_draw k__law_draw bd__law_draw
  have D_law_heard := defAt_of X G n__law_heard l__law_heard c__law_heard k__law_heard bd__law_heard
  have D_law_write := defAt_of X G n__law_write l__law_write c__law_write k__law_write bd__law_write
  have D_law_read := defAt_of X G n__law_read l__law_read c__law_read k__law_read bd__law_read
  have D_law_deeds := defAt_of X G n__law_deeds l__law_deeds c__law_deeds k__law_deeds bd__law_deeds
  have D_law_words := defAt_of X G n__law_words l__law_words c__law_words k__law_words bd__law_words
  have D_law_closed := defAt_of X G n__law_closed l__law_closed c__law_closed k__law_closed bd__law_closed
  have D_law_ends := defAt_of X G n__law_ends l__law_ends c__law_ends k__law_ends bd__law_ends
  have D_law_states := defAt_of X G n__law_states l__law_states c__law_states k__law_states bd__law_states
  have D_law_letters := defAt_of X G n__law_letters l__law_letters c__law_letters k__law_letters bd__law_letters
  have D_law_rows := defAt_of X G n__law_rows l__law_rows c__law_rows k__law_rows bd__law_rows
  have D_law_told := defAt_of X G n__law_told l__law_told c__law_told k__law_told bd__law_told
  have D_law_compared := defAt_of X G n__law_compared l__law_compared c__law_compared k__law_compared bd__law_compared
  have D_law_put := defAt_of X G n__law_put l__law_put c__law_put k__law_put bd__law_put
  have D_law_mixed_right := defAt_of X G n__law_mixed_right l__law_mixed_right c__law_mixed_right k__law_mixed_right bd__law_mixed_right
  have D_law_unlike_right := defAt_of X G n__law_unlike_right l__law_unlike_right c__law_unlike_right k__law_unlike_right bd__law_unlike_right
  have M_init := metAt_of a_Kind___init__ i_Kind___init__ l_Kind___init__ c_Kind___init__ k_Kind___init__ bd_Kind___init__
  have M_after_read := metAt_of a_Kind_after_read i_Kind_after_read l_Kind_after_read c_Kind_after_read k_Kind_after_read bd_Kind_after_read
  have M_after_write := metAt_of a_Kind_after_write i_Kind_after_write l_Kind_after_write c_Kind_after_write k_Kind_after_write bd_Kind_after_write
  have M_unguarded := metAt_of a_Kind_unguarded i_Kind_unguarded l_Kind_unguarded c_Kind_unguarded k_Kind_unguarded bd_Kind_unguarded
  have M_deeds := metAt_of a_Kind_deeds i_Kind_deeds l_Kind_deeds c_Kind_deeds k_Kind_deeds bd_Kind_deeds
  have M_eq := metAt_of a_Kind___eq__ i_Kind___eq__ l_Kind___eq__ c_Kind___eq__ k_Kind___eq__ bd_Kind___eq__
  have M_str := metAt_of a_Kind___str__ i_Kind___str__ l_Kind___str__ c_Kind___str__ k_Kind___str__ bd_Kind___str__
  have E_init := metAt_of a_Effect___init__ i_Effect___init__ l_Effect___init__ c_Effect___init__ k_Effect___init__ bd_Effect___init__
  have E_call := metAt_of a_Effect___call__ i_Effect___call__ l_Effect___call__ c_Effect___call__ k_Effect___call__ bd_Effect___call__
  have E_eq := metAt_of a_Effect___eq__ i_Effect___eq__ l_Effect___eq__ c_Effect___eq__ k_Effect___eq__ bd_Effect___eq__
  have E_mul := metAt_of a_Effect___mul__ i_Effect___mul__ l_Effect___mul__ c_Effect___mul__ k_Effect___mul__ bd_Effect___mul__
  have E_or := metAt_of a_Effect___or__ i_Effect___or__ l_Effect___or__ c_Effect___or__ k_Effect___or__ bd_Effect___or__
  have E_within := metAt_of a_Effect_within i_Effect_within l_Effect_within c_Effect_within k_Effect_within bd_Effect_within
  have nfC : PySem.W.notFirst K C (.ref C) = true := by
    unfold PySem.W.notFirst
    simp
  have nfE : PySem.W.notFirst K CE (.ref CE) = true := by
    unfold PySem.W.notFirst
    simp
  obtain ⟨fd1, x1, F1, b1, G1⟩ := ok_IN (P := l.prog) (base := base) M_init T
  obtain ⟨fd2, x2, F2, b2, G2⟩ := ok_AR (P := l.prog) (base := base) M_after_read T
  obtain ⟨fd3, x3, F3, b3, G3⟩ := ok_UN (P := l.prog) (base := base) M_unguarded T
  obtain ⟨fd4, x4, F4, b4, G4⟩ := ok_AW (P := l.prog) (base := base) M_after_write T ⟨fd3, _, x3, b3, G3⟩
  obtain ⟨fd5, x5, F5, b5, G5⟩ := ok_DE (P := l.prog) (base := base) M_deeds T
  obtain ⟨fd6, x6, F6, b6, G6⟩ := ok_EQ (P := l.prog) (base := base) M_eq T
  obtain ⟨fdS, xS, FS, bS, GS⟩ := ok_ST (P := l.prog) (base := base) M_str T
  have mAR : Met l.prog w K mg base 1 C "after_read" _ (spAR C) := ⟨fd2, _, x2, b2, G2⟩
  have mAW : Met l.prog w K mg base 2 C "after_write" _ (spAW C) := ⟨fd4, _, x4, b4, G4⟩
  have mDE : Met l.prog w K mg base 1 C "deeds" _ (spDE C) := ⟨fd5, _, x5, b5, G5⟩
  have cCl := ok_cl (P := l.prog) (w := w) (base := base) Dcheck_letters B ⟨_, PySem.W.mg_of X G n_MOST⟩ ⟨_, PySem.W.mg_of X G n_LETTERS⟩
  have cEw := ok_ewl (P := l.prog) (w := w) (base := base) Dends_without_letters B T mDE
  have cEl := ok_eol (P := l.prog) (w := w) (base := base) Dends_of_letter B T mAR mAW
  have cJo := ok_joined (P := l.prog) (w := w) (base := base) Djoined B
  have cEi := ok_either (P := l.prog) (w := w) (base := base) Deither B
  obtain ⟨fd7, x7, F7, b7, G7⟩ := ok_ei (P := l.prog) (w := w) (base := base) E_init TE
  have mkE_ : Mk K CE _ := ⟨mkE, a_Effect___init__, i_Effect___init__, kcE⟩
  have GOF := ok_of (fdo := PySem.W.fnOf "of" "Effect.of" (defArgs s_Effect_of) (defBody s_Effect_of) (defScope s_Effect_of) .none (.ref kdOF) dcOF pmOF anOF cdOF ctOF) (P := l.prog) (w := w) (mg := mg) (base := base) (C := C) l_OF c_OF TE cCl cEw cEl cJo mkE_ G7 b7
  obtain ⟨fd9, x9, F9, b9, G9⟩ := ok_ee (P := l.prog) (w := w) (base := base) E_eq TE B T G6 b6 a_Kind___eq__ i_Kind___eq__ nfC
  obtain ⟨fdN, xN, FN_, bN, GN⟩ := ok_een (P := l.prog) (w := w) (base := base) E_eq TE B G6 b6 a_Kind___eq__ i_Kind___eq__ nfC
  obtain ⟨fd10, x10, F10, b10, G10⟩ := ok_ecall (P := l.prog) (w := w) (base := base) (C := C) E_call TE
  have cSk := ok_sk (P := l.prog) (w := w) (base := base) Dcheck_same_kind TE T G6 b6 a_Kind___eq__ i_Kind___eq__ fd_C_ne nfC
  have cSX := ok_skX (P := l.prog) (w := w) (base := base) Dcheck_same_kind TE T (PySem.W.mg_of X G n_InvalidKind) TE4 errX4 G6 b6 a_Kind___eq__ i_Kind___eq__ fd_C_ne nfC
  obtain ⟨fdM, xM, FM, bM, GM⟩ := ok_mul (P := l.prog) (w := w) (base := base) E_mul TE cSk cJo mkE_ G7 b7
  obtain ⟨fdO, xO, FO, bO, GO⟩ := ok_or (P := l.prog) (w := w) (base := base) E_or TE cSk cEi mkE_ G7 b7
  obtain ⟨fdW, xW, FW, bW_, GW⟩ := ok_win (P := l.prog) (w := w) (base := base) E_within TE T (PySem.W.mg_none_of X G no_all) cSk
  obtain ⟨fdMX, xMX, FMX, bMX, GMX⟩ := ok_mulX (P := l.prog) (w := w) (base := base) E_mul TE T (PySem.W.mg_none_of X G no_all) cSX cJo cEi mkE_ G7 b7
  obtain ⟨fdOX, xOX, FOX, bOX, GOX⟩ := ok_orX (P := l.prog) (w := w) (base := base) E_or TE T (PySem.W.mg_none_of X G no_all) cSX cJo cEi mkE_ G7 b7
  obtain ⟨fdWX, xWX, FWX, bWX, GWX⟩ := ok_winX (P := l.prog) (w := w) (base := base) E_within TE T (PySem.W.mg_none_of X G no_all) cSX cJo cEi mkE_ G7 b7
  have GPA := ok_parG (P := l.prog) (w := w) (mg := mg) (base := base) (C := C) (fun_mk (st := s_effect_parting) l_effect_parting c_effect_parting k_effect_parting) TE T cSk
  have cPa := ok_par (P := l.prog) (w := w) (base := base) Deffect_parting TE T cSk
  have cPX := ok_parX (P := l.prog) (w := w) (base := base) Deffect_parting cSX
  have cDr := ok_draw (P := l.prog) (w := w) (base := base) D_law_draw (bi_of B)
  have cPn := ok_pen (P := l.prog) (w := w) (base := base) D_law_pen (bi_of B)
  have cRd := ok_rdL (P := l.prog) (w := w) (base := base) D_law_read
  have cWr := ok_wrL (P := l.prog) (w := w) (base := base) D_law_write
  have cDv := ok_dvL (P := l.prog) (w := w) (base := base) D_law_deeds
  have cWo := ok_words (P := l.prog) (w := w) (base := base) D_law_words cDr
  have cSt := ok_states (P := l.prog) (w := w) (base := base) D_law_states
  have cLe := ok_letters12 (P := l.prog) (w := w) (base := base) D_law_letters B cDr
  have cCd := ok_closed (P := l.prog) (w := w) (base := base) D_law_closed B cDv
  have cEn := ok_ends (P := l.prog) (w := w) (base := base) D_law_ends B cRd cWr cCd
  have cRo := ok_rows (P := l.prog) (w := w) (base := base) D_law_rows B cEn cSt
  have cTo := ok_told (P := l.prog) (w := w) (base := base) (C := C) D_law_told B cSt a_Effect___call__ i_Effect___call__ fnEC G10 b10
  have cPu := ok_put (P := l.prog) (w := w) (base := base) D_law_put B
  have cCm := ok_cmp (P := l.prog) (w := w) (base := base) (C := C) D_law_compared TE B nfE isG isT cTo cSt cPa G9 b9 a_Effect___eq__ i_Effect___eq__ fd_CE_ne sfE a_Effect___or__ i_Effect___or__ GO bO GPA (PySem.W.mg_of X G n_effect_parting) k_effect_parting kb_par xW GW (kb_win FW) ⟨fdW, _, xW, bW_, GW⟩
  have cMx := ok_mix (P := l.prog) (w := w) (base := base) (C := C) D_law_mixed_right TE T B cTo cPu cCm sfE a_Effect___mul__ i_Effect___mul__ GM bM G6 b6 a_Kind___eq__ i_Kind___eq__ nfC
  have gU := ok_unlike (P := l.prog) (w := w) (base := base) (ce := ce) l__law_unlike_right c__law_unlike_right (TB (cl1, Pt1) (List.mem_singleton.mpr rfl)) TE T B ER D_law_heard (PySem.W.mg_none_of X G no_str) nfE GS a_Kind___str__ i_Kind___str__ bS sfE a_Effect___mul__ i_Effect___mul__ GMX bMX a_Effect___or__ i_Effect___or__ GOX bOX xWX GWX bWX cPX G9 b9 GN bN a_Effect___eq__ i_Effect___eq__
    (fun n hn => by rcases hn with rfl | rfl | rfl; exact ⟨kit_own hdE tyCE rfl sn_int, nf_int⟩; exact ⟨kit_own hdE tyCE rfl sn_str, nf_str⟩; exact ⟨kit_own hdE tyCE rfl sn_tuple, nf_tuple⟩)
  have cUn : Cal l.prog w K mg base 7 "_law_unlike_right" (spUL C CE Pt1) := ⟨_, _, _, PySem.W.mg_of X G n__law_unlike_right, k__law_unlike_right, (fun_mk (st := s__law_unlike_right) l__law_unlike_right c__law_unlike_right k__law_unlike_right).binds bd__law_unlike_right, gU⟩
  have CM : ClX.CMet K CE mcE "of" pOF gOF := ⟨fcOF, ⟨rsOF, rec_at lpOF vOF⟩, fnOF⟩
  have CR : ClX.CRead K CE mcE := ⟨rdE, gaE⟩
  exact ok_law (fdW := fd1) (fE := C) (fdE := fd1) l_law c_law T TE B nfE isG isT cPn cDr cWo cLe cRo cTo cCm cMx cUn ⟨mk, a_Kind___init__, i_Kind___init__, kc⟩ G1 b1 CR CM GOF kb_ofM sfE a_Effect___mul__ i_Effect___mul__ GM bM a_Effect___or__ i_Effect___or__ GO bO ⟨fdW, _, xW, bW_, GW⟩ G9 b9 a_Effect___eq__ i_Effect___eq__ fd_CE_ne
end Law

set_option Elab.async false
set_option linter.all false
set_option maxRecDepth 100000
set_option maxHeartbeats 4000000
namespace Law
open PySem PySem.Spec PySem.Calls PyProof.Rows L2 KG
local macro_rules | `(tactic| walk_at "1") => `(tactic| first
  | (with_reducible refine w_var rfl ?_) | (with_reducible refine w_c ?_) | (with_reducible refine w_seq ?_) | (with_reducible refine w_asg ?_) | (with_reducible refine w_gname ?_) | (with_reducible refine w_op ?_) | (with_reducible refine w_un ?_)
  | (with_reducible refine w_add ?_) | (with_reducible refine w_sub ?_) | ((with_reducible refine' w_mod ?mo ?_); (case mo => first | assumption | decide | omega)) | (with_reducible refine w_and ?_) | (with_reducible refine w_or ?_) | (with_reducible refine w_xor ?_)
  | (with_reducible refine w_gt ?_) | (with_reducible refine w_lt ?_) | (with_reducible refine w_ge ?_) | (with_reducible refine w_le ?_) | ((with_reducible refine' w_eq ?sc ?_); (case sc => rfl)) | ((with_reducible refine' w_ne ?sc ?_); (case sc => rfl))
  | (with_reducible refine w_ret ?_) | (with_reducible refine w_next ?_) | (with_reducible refine w_ifs ?_) | (with_reducible refine w_ifx ?_) | (with_reducible refine w_test ?_) | (with_reducible refine w_tB ?_) | (with_reducible refine w_bl ?_)
  | ((with_reducible refine' w_ixL ?ixh ?ixa ?_); (case ixh => first | exact SqL.of (by assumption)); (case ixa => first | rfl | skip)) | ((with_reducible refine' w_ixT ?ixh ?ixa ?_); (case ixh => first | exact SqT.of (by assumption)); (case ixa => first | rfl | skip))
  | ((with_reducible refine' w_fld ?_)) | ((with_reducible refine' fld ?fh ?fc ?fn ?fl ?_); (case fh => assumption); (case fc => assumption); (case fn => assumption); (case fl => rfl)) | (with_reducible refine w_sfld ?_)
  | (with_reducible refine Or.inl ⟨_, rfl, ?_⟩) | (with_reducible refine w_gsub ?_) | (with_reducible refine w_andV ?_) | (with_reducible refine w_orV ?_)
  | (with_reducible refine w_nil ?_) | (with_reducible refine w_cons ?_) | (with_reducible refine w_tup ?_) | (with_reducible refine w_lst ?_) | (with_reducible refine w_and2 ?_) | (with_reducible refine w_or2 ?_) | (with_reducible refine w_not ?_) | (with_reducible refine w_cb ?_) | (with_reducible refine w_call ?_) | (with_reducible refine w_par ?_) | (with_reducible refine w_pnil ?_) | (with_reducible refine w_pcons ?_) | (with_reducible refine w_dput ?_) | (with_reducible refine w_dget ?_) | (with_reducible refine w_for ?_) | (with_reducible refine w_itup ?_) | (with_reducible refine w_ilist ?_) | (with_reducible refine w_irng ?_) | (with_reducible refine w_meth ?_) | (with_reducible refine w_make ?_) | (with_reducible refine w_makeK ?_) | (with_reducible refine w_methK ?_) | ((with_reducible refine' mth ?mh ?ml ?_); (case mh => assumption); (case ml => rfl)) | (with_reducible refine w_drop ?_))
local macro_rules | `(tactic| walk_at "go") => `(tactic| ((repeat (walk_at "1")); try dsimp only))
local macro_rules | `(tactic| walk_at "1") => `(tactic| first
  | (with_reducible refine w_notV ?_) | (with_reducible refine w_callK ?_) | (with_reducible refine w_lc ?_) | (with_reducible refine w_chain ?_) | (with_reducible refine w_neg ?_) | ((with_reducible refine' w_shr ?mo ?_); (case mo => first | assumption | omega)))
end Law
open PySem PySem.W PyProof.Rows
set_option maxRecDepth 100000 in
set_option maxHeartbeats 0 in
theorem PySem.Challenge.cw_keptbits_k12_whole_effects_put_together_holds : PySem.Challenge.rw_keptbits_k12_whole_effects_put_together.Holds := by
  w_on; o_law; k_head; (case hw => w_witness2)
  k_fill
  refine KG.walk_gdT (CX := L2.CX0) (k := 9) (n := 63) (x := "_law_script") (l := PySem.Challenge.rw_keptbits_k12_whole_effects_put_together) rfl (by decide) rfl ⟨rfl, by decide, by decide⟩ (fun w h Y => PySem.W.km_in_of Y) ?F ?g2
  case g2 => exact fun _ _ _ _ z => z
  case F =>
    intro w mg fa h _ KX G hmg tabs
    refine' Law.all KX G hmg tabs (by rfl) ?n_Kind ?n_WRITES ?n_INVERTED ?n_Effect ?n_SPENT ?n_MOST ?n_LETTERS ?no_int ?no_len ?no_abs ?no_list ?no_repr ?no_range ?no_str ?no_isinstance ?no_tuple ?no_sorted ?no_set ?no_enumerate ?no_zip ?pg ?hd ?po ?fd_C_setattr ?fd_C_reading ?fd_C_writing ?fd_C_device ?fd_C_states ?fd_C_class ?fd_C_ne ?isG ?isT ?isM ?mk ?kc ?mcT ?rdI ?gaI ?v_READINGS ?q_aR ?v_WRITINGS ?q_bW ?v_DEVICES ?q_aD ?lW ?lI ?kW ?kI ?g_w_store ?q_w_store ?q_w_storea ?q_w_storeb ?g_w_clear1 ?q_w_clear1 ?q_w_clear1a ?q_w_clear1b ?g_w_clear0 ?q_w_clear0 ?q_w_clear0a ?q_w_clear0b ?g_w_set1 ?q_w_set1 ?q_w_set1a ?q_w_set1b ?g_w_flip1 ?q_w_flip1 ?q_w_flip1a ?q_w_flip1b ?g_w_once ?q_w_once ?q_w_oncea ?q_w_onceb ?g_w_none ?q_w_none ?q_w_nonea ?q_w_noneb ?g_i_still ?q_i_still ?g_i_raise ?q_i_raise ?g_i_end ?q_i_end ?g_i_drift ?q_i_drift ?a_Kind___init__ ?i_Kind___init__ ?l_Kind___init__ ?c_Kind___init__ ?k_Kind___init__ ?a_Kind_after_read ?i_Kind_after_read ?l_Kind_after_read ?c_Kind_after_read ?k_Kind_after_read ?a_Kind_after_write ?i_Kind_after_write ?l_Kind_after_write ?c_Kind_after_write ?k_Kind_after_write ?a_Kind_unguarded ?i_Kind_unguarded ?l_Kind_unguarded ?c_Kind_unguarded ?k_Kind_unguarded ?a_Kind_deeds ?i_Kind_deeds ?l_Kind_deeds ?c_Kind_deeds ?k_Kind_deeds ?a_Kind___eq__ ?i_Kind___eq__ ?l_Kind___eq__ ?c_Kind___eq__ ?k_Kind___eq__ ?a_Kind___str__ ?i_Kind___str__ ?l_Kind___str__ ?c_Kind___str__ ?k_Kind___str__ ?pgE ?hdE ?poE ?fd_CE_setattr ?fd_CE_kind ?fd_CE_ends ?fd_CE_class ?fd_CE_ne ?isME ?mkE ?kcE ?mcET ?rdE ?gaE ?a_Effect___init__ ?i_Effect___init__ ?l_Effect___init__ ?c_Effect___init__ ?k_Effect___init__ ?a_Effect___call__ ?i_Effect___call__ ?l_Effect___call__ ?c_Effect___call__ ?k_Effect___call__ ?a_Effect___eq__ ?i_Effect___eq__ ?l_Effect___eq__ ?c_Effect___eq__ ?k_Effect___eq__ ?a_Effect___mul__ ?i_Effect___mul__ ?l_Effect___mul__ ?c_Effect___mul__ ?k_Effect___mul__ ?a_Effect___or__ ?i_Effect___or__ ?l_Effect___or__ ?c_Effect___or__ ?k_Effect___or__ ?a_Effect_within ?i_Effect_within ?l_Effect_within ?c_Effect_within ?k_Effect_within ?fnEC ?fcOF ?lpOF ?vOF ?l_OF ?c_OF ?k_OF ?fnOF ?nkOF ?no_ValueError ?no_super ?no_all ?sfE ?tyCE ?sn_int ?nf_int ?sn_str ?nf_str ?sn_tuple ?nf_tuple ?n_BitError ?sBB ?hBE ?tBE ?n_InvalidWidth ?n_InvalidLane ?n_InvalidWord ?n_InvalidShift ?n_InvalidKind ?n_InvalidLetters ?hD0 ?ty0 ?hD1 ?ty1 ?hD2 ?ty2 ?hD3 ?ty3 ?hD4 ?ty4 ?hD5 ?ty5 ?sE0 ?fd_E0_getattribute ?fd_E0_getattr ?sB0 ?fd_E0_class ?mO0 ?fd_E0_value ?sV0 ?s01 ?ne01 ?s02 ?ne02 ?s03 ?ne03 ?s04 ?ne04 ?s05 ?ne05 ?sE1 ?fd_E1_getattribute ?fd_E1_getattr ?sB1 ?fd_E1_class ?mO1 ?fd_E1_value ?sV1 ?s10 ?ne10 ?s12 ?ne12 ?s13 ?ne13 ?s14 ?ne14 ?s15 ?ne15 ?sE2 ?fd_E2_getattribute ?fd_E2_getattr ?sB2 ?fd_E2_class ?mO2 ?fd_E2_value ?sV2 ?s20 ?ne20 ?s21 ?ne21 ?s23 ?ne23 ?s24 ?ne24 ?s25 ?ne25 ?sE3 ?fd_E3_getattribute ?fd_E3_getattr ?sB3 ?fd_E3_class ?mO3 ?fd_E3_value ?sV3 ?s30 ?ne30 ?s31 ?ne31 ?s32 ?ne32 ?s34 ?ne34 ?s35 ?ne35 ?sE4 ?fd_E4_getattribute ?fd_E4_getattr ?sB4 ?fd_E4_class ?mO4 ?fd_E4_value ?sV4 ?s40 ?ne40 ?s41 ?ne41 ?s42 ?ne42 ?s43 ?ne43 ?s45 ?ne45 ?fBE ?cBE ?opq ?topE ?clE4 ?veE4 ?fd_E4_setattr ?kE4 ?iniE4 ?fnE4 ?lE4 ?cE4 ?lC4 ?vE4 ?fE4 ?lcc4 ?mE4 ?mBE4 ?n_check_letters ?l_check_letters ?c_check_letters ?k_check_letters ?n_check_same_kind ?l_check_same_kind ?c_check_same_kind ?k_check_same_kind ?n_ends_without_letters ?l_ends_without_letters ?c_ends_without_letters ?k_ends_without_letters ?n_ends_of_letter ?l_ends_of_letter ?c_ends_of_letter ?k_ends_of_letter ?n_joined ?l_joined ?c_joined ?k_joined ?n_either ?l_either ?c_either ?k_either ?n_effect_parting ?l_effect_parting ?c_effect_parting ?k_effect_parting ?n__law_pen ?l__law_pen ?c__law_pen ?k__law_pen ?n__law_draw ?l__law_draw ?c__law_draw ?k__law_draw ?n__law_heard ?l__law_heard ?c__law_heard ?k__law_heard ?n__law_write ?l__law_write ?c__law_write ?k__law_write ?n__law_read ?l__law_read ?c__law_read ?k__law_read ?n__law_deeds ?l__law_deeds ?c__law_deeds ?k__law_deeds ?n__law_words ?l__law_words ?c__law_words ?k__law_words ?n__law_closed ?l__law_closed ?c__law_closed ?k__law_closed ?n__law_ends ?l__law_ends ?c__law_ends ?k__law_ends ?n__law_states ?l__law_states ?c__law_states ?k__law_states ?n__law_letters ?l__law_letters ?c__law_letters ?k__law_letters ?n__law_rows ?l__law_rows ?c__law_rows ?k__law_rows ?n__law_told ?l__law_told ?c__law_told ?k__law_told ?n__law_compared ?l__law_compared ?c__law_compared ?k__law_compared ?n__law_put ?l__law_put ?c__law_put ?k__law_put ?n__law_mixed_right ?l__law_mixed_right ?c__law_mixed_right ?k__law_mixed_right ?n__law_unlike_right ?l__law_unlike_right ?c__law_unlike_right ?k__law_unlike_right ?n_law ?l_law ?c_law ?k_law ?lcl1 ?v11_1 ?hdl1 ?nPt1
    (case n_Kind => k_is)
    (case n_WRITES => k_is)
    (case n_INVERTED => k_is)
    (case n_Effect => k_is)
    (case n_SPENT => k_is)
    (case n_MOST => k_is)
    (case n_LETTERS => k_is)
    (case no_int => k_is)
    (case no_len => k_is)
    (case no_abs => k_is)
    (case no_list => k_is)
    (case no_repr => k_is)
    (case no_range => k_is)
    (case no_str => k_is)
    (case no_isinstance => k_is)
    (case no_tuple => k_is)
    (case no_sorted => k_is)
    (case no_set => k_is)
    (case no_enumerate => k_is)
    (case no_zip => k_is)
    (case pg => k_is)
    (case hd => k_is)
    (case po => k_is)
    (case fd_C_setattr => k_is)
    (case fd_C_reading => k_is)
    (case fd_C_writing => k_is)
    (case fd_C_device => k_is)
    (case fd_C_states => k_is)
    (case fd_C_class => k_is)
    (case fd_C_ne => k_is)
    (case isG => k_is)
    (case isT => k_is)
    (case isM => k_is)
    (case mk => k_is)
    (case kc => k_is)
    (case mcT => k_is)
    (case rdI => k_is)
    (case gaI => k_is)
    (case v_READINGS => k_is)
    (case q_aR => k_is)
    (case v_WRITINGS => k_is)
    (case q_bW => k_is)
    (case v_DEVICES => k_is)
    (case q_aD => k_is)
    (case lW => k_is)
    (case lI => k_is)
    (case kW => repeat (first | exact True.intro | refine ⟨⟨_, _, rfl, rfl⟩, ?_⟩))
    (case kI => repeat (first | exact True.intro | refine ⟨⟨_, _, rfl, rfl⟩, ?_⟩))
    (case g_w_store => k_is)
    (case q_w_store => k_is)
    (case q_w_storea => k_is)
    (case q_w_storeb => k_is)
    (case g_w_clear1 => k_is)
    (case q_w_clear1 => k_is)
    (case q_w_clear1a => k_is)
    (case q_w_clear1b => k_is)
    (case g_w_clear0 => k_is)
    (case q_w_clear0 => k_is)
    (case q_w_clear0a => k_is)
    (case q_w_clear0b => k_is)
    (case g_w_set1 => k_is)
    (case q_w_set1 => k_is)
    (case q_w_set1a => k_is)
    (case q_w_set1b => k_is)
    (case g_w_flip1 => k_is)
    (case q_w_flip1 => k_is)
    (case q_w_flip1a => k_is)
    (case q_w_flip1b => k_is)
    (case g_w_once => k_is)
    (case q_w_once => k_is)
    (case q_w_oncea => k_is)
    (case q_w_onceb => k_is)
    (case g_w_none => k_is)
    (case q_w_none => k_is)
    (case q_w_nonea => k_is)
    (case q_w_noneb => k_is)
    (case g_i_still => k_is)
    (case q_i_still => k_is)
    (case g_i_raise => k_is)
    (case q_i_raise => k_is)
    (case g_i_end => k_is)
    (case q_i_end => k_is)
    (case g_i_drift => k_is)
    (case q_i_drift => k_is)
    (case a_Kind___init__ => k_is)
    (case i_Kind___init__ => k_is)
    (case l_Kind___init__ => k_is)
    (case c_Kind___init__ => k_is)
    (case k_Kind___init__ => k_is)
    (case a_Kind_after_read => k_is)
    (case i_Kind_after_read => k_is)
    (case l_Kind_after_read => k_is)
    (case c_Kind_after_read => k_is)
    (case k_Kind_after_read => k_is)
    (case a_Kind_after_write => k_is)
    (case i_Kind_after_write => k_is)
    (case l_Kind_after_write => k_is)
    (case c_Kind_after_write => k_is)
    (case k_Kind_after_write => k_is)
    (case a_Kind_unguarded => k_is)
    (case i_Kind_unguarded => k_is)
    (case l_Kind_unguarded => k_is)
    (case c_Kind_unguarded => k_is)
    (case k_Kind_unguarded => k_is)
    (case a_Kind_deeds => k_is)
    (case i_Kind_deeds => k_is)
    (case l_Kind_deeds => k_is)
    (case c_Kind_deeds => k_is)
    (case k_Kind_deeds => k_is)
    (case a_Kind___eq__ => k_is)
    (case i_Kind___eq__ => k_is)
    (case l_Kind___eq__ => k_is)
    (case c_Kind___eq__ => k_is)
    (case k_Kind___eq__ => k_is)
    (case a_Kind___str__ => k_is)
    (case i_Kind___str__ => k_is)
    (case l_Kind___str__ => k_is)
    (case c_Kind___str__ => k_is)
    (case k_Kind___str__ => k_is)
    (case pgE => k_is)
    (case hdE => k_is)
    (case poE => k_is)
    (case fd_CE_setattr => k_is)
    (case fd_CE_kind => k_is)
    (case fd_CE_ends => k_is)
    (case fd_CE_class => k_is)
    (case fd_CE_ne => k_is)
    (case isME => k_is)
    (case mkE => k_is)
    (case kcE => k_is)
    (case mcET => k_is)
    (case rdE => first | k_is | kernel_rfl)
    (case gaE => first | k_is | kernel_rfl)
    (case a_Effect___init__ => k_is)
    (case i_Effect___init__ => k_is)
    (case l_Effect___init__ => k_is)
    (case c_Effect___init__ => k_is)
    (case k_Effect___init__ => k_is)
    (case a_Effect___call__ => k_is)
    (case i_Effect___call__ => k_is)
    (case l_Effect___call__ => k_is)
    (case c_Effect___call__ => k_is)
    (case k_Effect___call__ => k_is)
    (case a_Effect___eq__ => k_is)
    (case i_Effect___eq__ => k_is)
    (case l_Effect___eq__ => k_is)
    (case c_Effect___eq__ => k_is)
    (case k_Effect___eq__ => k_is)
    (case a_Effect___mul__ => k_is)
    (case i_Effect___mul__ => k_is)
    (case l_Effect___mul__ => k_is)
    (case c_Effect___mul__ => k_is)
    (case k_Effect___mul__ => k_is)
    (case a_Effect___or__ => k_is)
    (case i_Effect___or__ => k_is)
    (case l_Effect___or__ => k_is)
    (case c_Effect___or__ => k_is)
    (case k_Effect___or__ => k_is)
    (case a_Effect_within => k_is)
    (case i_Effect_within => k_is)
    (case l_Effect_within => k_is)
    (case c_Effect_within => k_is)
    (case k_Effect_within => k_is)
    (case fnEC => first | k_is | kernel_rfl)
    (case fcOF => first | k_is | kernel_rfl)
    (case lpOF => k_is)
    (case vOF => rfl)
    (case l_OF => k_is)
    (case c_OF => k_is)
    (case k_OF => k_is)
    (case fnOF => first | k_is | kernel_rfl)
    (case nkOF => k_is)
    (case no_ValueError => k_is)
    (case no_super => k_is)
    (case no_all => k_is)
    (case sfE => first | k_is | kernel_rfl)
    (case tyCE => k_is)
    (case sn_int => k_is)
    (case nf_int => k_is)
    (case sn_str => k_is)
    (case nf_str => k_is)
    (case sn_tuple => k_is)
    (case nf_tuple => k_is)
    (case n_BitError => k_is)
    (case sBB => k_is)
    (case hBE => k_is)
    (case tBE => k_is)
    (case n_InvalidWidth => k_is)
    (case n_InvalidLane => k_is)
    (case n_InvalidWord => k_is)
    (case n_InvalidShift => k_is)
    (case n_InvalidKind => k_is)
    (case n_InvalidLetters => k_is)
    (case hD0 => k_is)
    (case ty0 => k_is)
    (case hD1 => k_is)
    (case ty1 => k_is)
    (case hD2 => k_is)
    (case ty2 => k_is)
    (case hD3 => k_is)
    (case ty3 => k_is)
    (case hD4 => k_is)
    (case ty4 => k_is)
    (case hD5 => k_is)
    (case ty5 => k_is)
    (case sE0 => k_is)
    (case fd_E0_getattribute => k_is)
    (case fd_E0_getattr => k_is)
    (case sB0 => k_is)
    (case fd_E0_class => k_is)
    (case mO0 => k_is)
    (case fd_E0_value => k_is)
    (case sV0 => k_is)
    (case s01 => k_is)
    (case ne01 => rfl)
    (case s02 => k_is)
    (case ne02 => rfl)
    (case s03 => k_is)
    (case ne03 => rfl)
    (case s04 => k_is)
    (case ne04 => rfl)
    (case s05 => k_is)
    (case ne05 => rfl)
    (case sE1 => k_is)
    (case fd_E1_getattribute => k_is)
    (case fd_E1_getattr => k_is)
    (case sB1 => k_is)
    (case fd_E1_class => k_is)
    (case mO1 => k_is)
    (case fd_E1_value => k_is)
    (case sV1 => k_is)
    (case s10 => k_is)
    (case ne10 => rfl)
    (case s12 => k_is)
    (case ne12 => rfl)
    (case s13 => k_is)
    (case ne13 => rfl)
    (case s14 => k_is)
    (case ne14 => rfl)
    (case s15 => k_is)
    (case ne15 => rfl)
    (case sE2 => k_is)
    (case fd_E2_getattribute => k_is)
    (case fd_E2_getattr => k_is)
    (case sB2 => k_is)
    (case fd_E2_class => k_is)
    (case mO2 => k_is)
    (case fd_E2_value => k_is)
    (case sV2 => k_is)
    (case s20 => k_is)
    (case ne20 => rfl)
    (case s21 => k_is)
    (case ne21 => rfl)
    (case s23 => k_is)
    (case ne23 => rfl)
    (case s24 => k_is)
    (case ne24 => rfl)
    (case s25 => k_is)
    (case ne25 => rfl)
    (case sE3 => k_is)
    (case fd_E3_getattribute => k_is)
    (case fd_E3_getattr => k_is)
    (case sB3 => k_is)
    (case fd_E3_class => k_is)
    (case mO3 => k_is)
    (case fd_E3_value => k_is)
    (case sV3 => k_is)
    (case s30 => k_is)
    (case ne30 => rfl)
    (case s31 => k_is)
    (case ne31 => rfl)
    (case s32 => k_is)
    (case ne32 => rfl)
    (case s34 => k_is)
    (case ne34 => rfl)
    (case s35 => k_is)
    (case ne35 => rfl)
    (case sE4 => k_is)
    (case fd_E4_getattribute => k_is)
    (case fd_E4_getattr => k_is)
    (case sB4 => k_is)
    (case fd_E4_class => k_is)
    (case mO4 => k_is)
    (case fd_E4_value => k_is)
    (case sV4 => k_is)
    (case s40 => k_is)
    (case ne40 => rfl)
    (case s41 => k_is)
    (case ne41 => rfl)
    (case s42 => k_is)
    (case ne42 => rfl)
    (case s43 => k_is)
    (case ne43 => rfl)
    (case s45 => k_is)
    (case ne45 => rfl)
    (case fBE => k_is)
    (case cBE => k_is)
    (case opq => k_is)
    (case topE => rfl)
    (case clE4 => k_is)
    (case veE4 => rfl)
    (case fd_E4_setattr => k_is)
    (case kE4 => k_is)
    (case iniE4 => k_is)
    (case fnE4 => k_is)
    (case lE4 => k_is)
    (case cE4 => k_is)
    (case lC4 => k_is)
    (case vE4 => rfl)
    (case fE4 => rfl)
    (case lcc4 => k_is)
    (case mE4 => k_is)
    (case mBE4 => rfl)
    (case n_check_letters => k_is)
    (case l_check_letters => k_is)
    (case c_check_letters => k_is)
    (case k_check_letters => k_is)
    (case n_check_same_kind => k_is)
    (case l_check_same_kind => k_is)
    (case c_check_same_kind => k_is)
    (case k_check_same_kind => k_is)
    (case n_ends_without_letters => k_is)
    (case l_ends_without_letters => k_is)
    (case c_ends_without_letters => k_is)
    (case k_ends_without_letters => k_is)
    (case n_ends_of_letter => k_is)
    (case l_ends_of_letter => k_is)
    (case c_ends_of_letter => k_is)
    (case k_ends_of_letter => k_is)
    (case n_joined => k_is)
    (case l_joined => k_is)
    (case c_joined => k_is)
    (case k_joined => k_is)
    (case n_either => k_is)
    (case l_either => k_is)
    (case c_either => k_is)
    (case k_either => k_is)
    (case n_effect_parting => k_is)
    (case l_effect_parting => k_is)
    (case c_effect_parting => k_is)
    (case k_effect_parting => k_is)
    (case n__law_pen => k_is)
    (case l__law_pen => k_is)
    (case c__law_pen => k_is)
    (case k__law_pen => k_is)
    (case n__law_draw => k_is)
    (case l__law_draw => k_is)
    (case c__law_draw => k_is)
    (case k__law_draw => k_is)
    (case n__law_heard => k_is)
    (case l__law_heard => k_is)
    (case c__law_heard => k_is)
    (case k__law_heard => k_is)
    (case n__law_write => k_is)
    (case l__law_write => k_is)
    (case c__law_write => k_is)
    (case k__law_write => k_is)
    (case n__law_read => k_is)
    (case l__law_read => k_is)
    (case c__law_read => k_is)
    (case k__law_read => k_is)
    (case n__law_deeds => k_is)
    (case l__law_deeds => k_is)
    (case c__law_deeds => k_is)
    (case k__law_deeds => k_is)
    (case n__law_words => k_is)
    (case l__law_words => k_is)
    (case c__law_words => k_is)
    (case k__law_words => k_is)
    (case n__law_closed => k_is)
    (case l__law_closed => k_is)
    (case c__law_closed => k_is)
    (case k__law_closed => k_is)
    (case n__law_ends => k_is)
    (case l__law_ends => k_is)
    (case c__law_ends => k_is)
    (case k__law_ends => k_is)
    (case n__law_states => k_is)
    (case l__law_states => k_is)
    (case c__law_states => k_is)
    (case k__law_states => k_is)
    (case n__law_letters => k_is)
    (case l__law_letters => k_is)
    (case c__law_letters => k_is)
    (case k__law_letters => k_is)
    (case n__law_rows => k_is)
    (case l__law_rows => k_is)
    (case c__law_rows => k_is)
    (case k__law_rows => k_is)
    (case n__law_told => k_is)
    (case l__law_told => k_is)
    (case c__law_told => k_is)
    (case k__law_told => k_is)
    (case n__law_compared => k_is)
    (case l__law_compared => k_is)
    (case c__law_compared => k_is)
    (case k__law_compared => k_is)
    (case n__law_put => k_is)
    (case l__law_put => k_is)
    (case c__law_put => k_is)
    (case k__law_put => k_is)
    (case n__law_mixed_right => k_is)
    (case l__law_mixed_right => k_is)
    (case c__law_mixed_right => k_is)
    (case k__law_mixed_right => k_is)
    (case n__law_unlike_right => k_is)
    (case l__law_unlike_right => k_is)
    (case c__law_unlike_right => k_is)
    (case k__law_unlike_right => k_is)
    (case n_law => k_is)
    (case l_law => k_is)
    (case c_law => k_is)
    (case k_law => k_is)
    (case lcl1 => k_is)
    (case v11_1 => rfl)
    (case hdl1 => kernel_rfl)
    (case nPt1 => kernel_rfl)
#print axioms PySem.Challenge.cw_keptbits_k12_whole_effects_put_together_holds
