import PyProof.Rows.All
import Wide.All
import OpenK.AllK
import Wide.FinOn
import HandS.ForMost
import HandS.ForExc
import HandS.MakeKw
import HandS.FStr
import HandS.Conv
import HandS.ClsMeth
import KE.KCallOwn
import HandS.IsInst
import PyProof.InstEq
import HandS.Lambda
import HandS.ExcInit
import HandS.ExcIs
import HandS.ExcField
import KE.KExcIs
import KE.KExcSuper
import KE.KExcMake
import HandS.EndTab
import HandS.EndOwn
import HandS.NestedK
import PyProof.P3In
import PyProof.FactsAll.dict_1
import KE.KOpsOwn
import HandS.SlotsOwn
import HandS.Defaults
import PyProof.TwoTypes
import PyProof.Rows.FactsB_and
import PyProof.Rows.FactsB_or
import PyProof.Rows.FactsB_xor
import HandS.Property
import KE.RegKSuper
import HandS.GenList
import HandS.SetFor
import HandS.Strs
import HandS.Zip
import HandS.SetBool
import PyProof.Draws
import HandS.Text
import HandS.AnyAll
import HandS.TupAny
import HandS.Walk
import HandS.Style
import PyProof.StrOps2
import HandS.TupSets
import HandS.More
import PySem.Challenge.RW_keptbits_k19_fields_made
set_option Elab.async false
set_option linter.all false
set_option maxRecDepth 100000
set_option maxHeartbeats 4000000
/-! KG: defs that are promised something where nothing is being shown (no repr under way), so that repr of data is an exact text. -/
namespace KG
open PySem PySem.Spec PyProof.Rows L2

/-- the promise of a def, for callers around which nothing is being shown -/
structure Gd (P : Program) (w : World) (K : PySem.W.Frag) (mg : Str → Option Value) (base : Heap) (CX : CXT) (k : Nat) (f : Addr) (fd : FuncData) (ps : List Str) (sp : Sp) : Prop where
  len : ∀ vs H Q E, sp vs H Q E → vs.length = ps.length
  go : ∀ (A : Around) (outer : List Env) (s : Shared) (H : Hp) (args : Args) (us : List Value) (vs : List V) (Q : VK) (E : XK),
    Room k A → A.guards = some [] → Env0 P w K mg base A outer s H → BindsTo s fd args (ps.zip us) → Vals vs us → sp vs H Q E →
    codeAny (model P w) A (.call (.ref f) args) (CR CX outer P w H s Q E) s

section
variable {P : Program} {w : World} {K : PySem.W.Frag} {mg : Str → Option Value} {base : Heap} {CX : CXT} {k j : Nat} {f : Addr} {fd : FuncData} {ps : List Str} {sp sp' : Sp}
theorem Gd.mono (F : Gd P w K mg base CX j f fd ps sp) (h : j ≤ k) : Gd P w K mg base CX k f fd ps sp :=
  ⟨F.len, fun A o s H a us vs Q E rm => F.go A o s H a us vs Q E (rm.mono h)⟩
theorem Gd.imp (F : Gd P w K mg base CX k f fd ps sp) (h : ∀ vs H Q E, sp' vs H Q E → sp vs H Q E) : Gd P w K mg base CX k f fd ps sp' :=
  ⟨fun vs H Q E q => F.len vs H Q E (h _ _ _ _ q), fun A o s H a us vs Q E rm gd e0 bt rv q => F.go A o s H a us vs Q E rm gd e0 bt rv (h _ _ _ _ q)⟩
theorem Gd.of_ok (F : FnOk P w K mg base CX k f fd ps sp) : Gd P w K mg base CX k f fd ps sp :=
  ⟨F.len, fun A o s H a us vs Q E rm _ e0 bt rv q => F.run A o s H a us vs Q E rm e0 bt rv q⟩

/-- a def by its body -/
theorem gd_of {name qual : Str} {params : Arguments} {body : List Stmt} {scope : Scope} {dV kV doc pm cdv ct oc : Value} {an od : Option Addr}
    {osl : Array (Option Value)} {N : List Str}
    (found : K.lookup f = some ⟨oc, od, .func (PySem.W.fnOf name qual params body scope dV kV doc pm an cdv ct), osl⟩)
    (code : PySem.W.codeIn K cdv qual = true) (sc : FnScope N ps scope) (len : ∀ vs H Q E, sp vs H Q E → vs.length = ps.length)
    (inner : ∀ (A : Around) (outer : List Env) (s : Shared) (H : Hp) (vs : List V) (Q : VK) (E : XK),
      Room k (A.deeper (envOfC qual scope s.heap.objs.size f cdv)) → (A.deeper (envOfC qual scope s.heap.objs.size f cdv)).guards = some [] → sp vs H Q E →
      ∃ t, PSs (cxOf CX P w K mg base N qual scope f cdv A outer s H E) body t ∧ t { nx := fun _ H' => Q .non H', rt := Q } (start N vs) H) :
    Gd P w K mg base CX (k + 1) f (PySem.W.fnOf name qual params body scope dV kV doc pm an cdv ct) ps sp := by
  refine ⟨len, fun A outer s H args us vs Q E rm gd e0 bt rv q0 => ?_⟩
  have llen := len _ _ _ _ q0
  have kin : K.In s.heap := e0.mod.kin.keeps fun b o e => (e0.bs b o e).1
  have nolim : s.heap.NoLimit := e0.mod.nolimit.keeps fun b o e => (e0.bs b o e).1
  have kinds : ∀ y ∈ ps.zip us, scope.names.lookup y.1 = some .local ∨
      (scope.names.lookup y.1 = some .cell ∧ ((cellsFrom (s.heap.objs.size + 1) scope.names []).lookup y.1).isSome = true) := by
    intro ⟨n, v⟩ hy
    rcases sc.par n (List.of_mem_zip hy).1 with z | z
    · exact .inl z
    · exact .inr ⟨z, PySem.W.cellsFrom_some _ _ _ (.inl z)⟩
  refine codeAny_call_function rm.depth (kin _ _ found) rfl sc.co sc.gen rfl (PySem.W.codeRec_of kin code) (bt _ _ _ _ ?_)
  refine wpAny_newFunctionEnv_cells sc.kind kinds fun env he s1 x => ?_
  subst he
  refine ⟨nolim.keeps x.toInCall.keep, codeAny_func ?_⟩
  obtain ⟨t, ht, hq⟩ := inner A outer s H vs Q E (rm.deeper _) gd q0
  have I := inv_start (CX := CX) (E := E) sc rm.hd e0 llen rv x
  refine wpAny_mono (ht.run [] s1 (start N vs) H _ I hq) (fun fl s' hs => ?_) fun e s' hs => hs
  have done : ∀ {σ' : L2.St} {H' : Hp} {v : V} {u : Value}, Inv (cxOf CX P w K mg base N qual scope f cdv A outer s H E) [] σ' H' s' → RelV v u → Q v H' → CE outer P w H s Q u s' :=
    fun {σ' H' v u} J r q => ⟨v, H', J.os, J.bare, J.base, J.hok, r, q⟩
  cases fl with
  | ret u =>
    obtain ⟨v, σ', H', J, r, q⟩ := hs
    exact done J r q
  | next =>
    obtain ⟨σ', H', J, q⟩ := hs
    exact done (v := V.non) (u := Value.none) J rfl q
  | brk => exact hs.elim fun _ h => h.elim fun _ h => False.elim h.2
  | cont => exact hs.elim fun _ h => h.elim fun _ h => False.elim h.2

/-- a def of the text that raises nothing, by its body -/
theorem gd0 {x qual : Str} {st : Stmt} {N : List Str} (F : Fun K x qual st f fd) (sc : FnScope N ps (defScope st)) (len : ∀ vs H Q E, sp vs H Q E → vs.length = ps.length)
    (inner : ∀ (cdv : Value) (A : Around) (outer : List Env) (s : Shared) (H : Hp) (vs : List V) (Q : VK) (E : XK),
      Room k (A.deeper (envOfC qual (defScope st) s.heap.objs.size f cdv)) → (A.deeper (envOfC qual (defScope st) s.heap.objs.size f cdv)).guards = some [] → sp vs H Q E →
      ∃ t, PSs (cxOf CX0 P w K mg base N qual (defScope st) f cdv A outer s H E).nox (defBody st) t ∧ t { nx := fun _ H' => Q .non H', rt := Q } (start N vs) H) :
    Gd P w K mg base CX0 (k + 1) f fd ps sp := by
  obtain ⟨oc, od, kV, doc, pm, an, cdv, ct, osl, rfl, found, code⟩ := F.ex
  exact gd_of found code sc len fun A outer s H vs Q E rm gd q => (inner cdv A outer s H vs Q E rm gd q).elim fun t h => ⟨t, h.1.nox, h.2⟩
/-- a def of the text that may raise, by its body -/
theorem gdX {x qual : Str} {st : Stmt} {N : List Str} (F : Fun K x qual st f fd) (sc : FnScope N ps (defScope st)) (len : ∀ vs H Q E, sp vs H Q E → vs.length = ps.length)
    (inner : ∀ (cdv : Value) (A : Around) (outer : List Env) (s : Shared) (H : Hp) (vs : List V) (Q : VK) (E : XK),
      Room k (A.deeper (envOfC qual (defScope st) s.heap.objs.size f cdv)) → (A.deeper (envOfC qual (defScope st) s.heap.objs.size f cdv)).guards = some [] → sp vs H Q E →
      ∃ t, PSs (cxOf (L2.CX P w) P w K mg base N qual (defScope st) f cdv A outer s H E) (defBody st) t ∧ t { nx := fun _ H' => Q .non H', rt := Q } (start N vs) H) :
    Gd P w K mg base (L2.CX P w) (k + 1) f fd ps sp := by
  obtain ⟨oc, od, kV, doc, pm, an, cdv, ct, osl, rfl, found, code⟩ := F.ex
  exact gd_of found code sc len fun A outer s H vs Q E rm gd q => inner cdv A outer s H vs Q E rm gd q
end

/-! ### calls -/
section
variable {X : Cx} {CX : CXT} {k : Nat} {f C : Addr} {fd : FuncData} {ps ks : List Str} {sp : Sp} {dvs : List V} {ds : List Value} {E : XK} {x m : Str} {p pos apos : Pos} {e o : Expr} {es : List Expr} {kws : List Keyword} {ta te : TE} {t tk : TA}
/-- the callee runs, around it A with the same frames and nothing shown -/
theorem run_at {pins : List (Addr × Obj)} {σ : L2.St} {H : Hp} {s : Shared} {Q : VK} {us ws : List Value} {kw : List (Str × Value)} {vs : List V} {A : Around} {W : Value → Shared → Prop}
    (F : Gd X.prog X.w X.K X.mg X.base CX k f fd ps sp) (rm : Room k A) (gd : A.guards = some []) (e0 : Env0 X.prog X.w X.K X.mg X.base A X.stack s H)
    (pass : ∀ e s', CX X.stack H s E e s' → W e s')
    (I : Inv X pins σ H s) (bt : BindsTo s fd ⟨us, kw⟩ (ps.zip ws)) (r : Vals vs ws) (q : sp vs H Q E) : wpAny (model X.prog X.w) A (call (.ref f) us kw) (EP X pins σ Q) W s := by
  refine wpAny_call (codeAny_mono (F.go A X.stack s H ⟨us, kw⟩ ws vs Q E rm gd e0 bt r q) fun out s' hq => ?_)
  match out, hq with
  | .error e, hq => exact pass e s' hq
  | .ok (.ret u), hq => exact I.after hq
theorem run_g {pins : List (Addr × Obj)} {σ : L2.St} {H : Hp} {s : Shared} {Q : VK} {us ws : List Value} {kw : List (Str × Value)} {vs : List V}
    (F : Gd X.prog X.w X.K X.mg X.base CX k f fd ps sp) (rm : Room k X.A) (gd : X.A.guards = some []) (hx : Passes CX X E)
    (I : Inv X pins σ H s) (bt : BindsTo s fd ⟨us, kw⟩ (ps.zip ws)) (r : Vals vs ws) (q : sp vs H Q E) : wpAny (model X.prog X.w) X.A (call (.ref f) us kw) (EP X pins σ Q) X.xe s :=
  run_at F rm gd I.env0 (fun e s' hq => hx pins σ H s e s' I hq) I bt r q
theorem bind_pos {s : Shared} {us : List Value} {vs : List V} {H : Hp} {Q : VK} (F : Gd X.prog X.w X.K X.mg X.base CX k f fd ps sp) (hb : Binds X.K fd ps ds) (hd : Vals dvs ds) (KX : X.K.In s.heap) (r : Vals vs us) (q : sp (vs ++ dvs) H Q E) :
    BindsTo s fd ⟨us, []⟩ (ps.zip (us ++ ds)) := hb s us KX (by rw [← (r.append hd).length]; exact F.len _ _ _ _ q)

/-- f(e, ..) -/
theorem pe_gcall (F : Gd X.prog X.w X.K X.mg X.base CX k f fd ps sp) (rm : Room k X.A) (gd : X.A.guards = some []) (gl : Gl X x) (at_ : X.mg x = some (.ref f)) (kp : PySem.W.keepIn X.K (.ref f) = true) (hb : Binds X.K fd ps ds) (hd : Vals dvs ds) (hx : Passes CX X E)
    (ha : PA X (e :: es) t) (hdb : (x == ("__debug__" : Str)) = false := by decide) (he : starEach (e :: es) X.env = (false, eval e X.env) :: starEach es X.env := by rfl) (hpl : (backTo pos (starEach es X.env)).any (·.1) = false := by rfl) :
    PE X (.Call (.Name x p) (e :: es) [] pos) (tCall sp dvs E t) :=
  ⟨fun pins s σ H Q I h => wpAny_Call_Name_kw (ld_glob I gl at_ (PySem.W.callWith_K (h₀ := X.base) I.ok.mod.kin kp
    (thn (ha.run pos pins s σ H _ I h) fun us s1 ⟨vs, H1, J, r, q⟩ => ⟨J.kIn, run_g F rm gd hx J (bind_pos F hb hd J.kIn r q) (r.append hd) q⟩) he hpl) hdb)⟩
/-- f() -/
theorem pe_gcall0 (F : Gd X.prog X.w X.K X.mg X.base CX k f fd ps sp) (rm : Room k X.A) (gd : X.A.guards = some []) (gl : Gl X x) (at_ : X.mg x = some (.ref f)) (kp : PySem.W.keepIn X.K (.ref f) = true) (hb : Binds X.K fd ps ds) (hd : Vals dvs ds) (hx : Passes CX X E)
    (hdb : (x == ("__debug__" : Str)) = false := by decide) : PE X (.Call (.Name x p) [] [] pos) (tCall sp dvs E tNil) :=
  ⟨fun pins s σ H Q I h => wpAny_Call_Name_kw (ld_glob I gl at_ (PySem.W.callWith_K0 I.kIn kp (run_g (us := []) (vs := dvs) F rm gd hx I (bind_pos (vs := []) F hb hd I.kIn .nil h) (Vals.append .nil hd) h)) hdb)⟩
/-- o.m(e, ..) -/
theorem pe_gmeth {pl : Sem Bool} (he : PE X o ta) (c : Cls X.K C) (hm : Meth X.K C m f) (F : Gd X.prog X.w X.K X.mg X.base CX k f fd ps sp) (rm : Room k X.A) (gd : X.A.guards = some []) (hb : Binds X.K fd ps ds) (hd : Vals dvs ds) (hx : Passes CX X E) (ha : PA X (e :: es) t)
    (hst : starEach (e :: es) X.env = (false, eval e X.env) :: starEach es X.env := by rfl) (hpl : (backTo pos (starEach es X.env)).any (·.1) = false := by rfl)
    (ht : eval (.Call (.Attribute o m apos) (e :: es) [] pos) X.env = (do
      let w ← eval o X.env
      standAt apos.atName
      let (g, a) ← holding [w] (getMethod w m pl)
      callWith pos g a (backTo pos (starEach (e :: es) X.env)) (backToKw pos (keywordEach [] X.env))) := by rfl) :
    PE X (.Call (.Attribute o m apos) (e :: es) [] pos) (tMeth C m sp dvs E ta t) := by
  refine ⟨fun pins s σ H Q I h => PySem.W.methodCall_KW (pl := pl) (thn (he.run pins s σ H _ I h) fun u s1 ⟨y, H1, I1, ry, a, dx, fs, ey, ea, l, q⟩ => ?_) ht⟩
  subst ey
  obtain rfl : u = Value.ref a := ry
  refine getmeth_ok I1 ea c hm l (PySem.W.callWith_K (first := [.ref a]) (h₀ := X.base) I.ok.mod.kin hm.kp (thn (ha.run pos pins s1 σ H1 _ I1 q) fun us s2 ⟨vs, H2, J, r, q2⟩ => ⟨J.kIn, ?_⟩) hst hpl)
  have r1 : Vals (V.ref a :: vs) (Value.ref a :: us) := .cons rfl r
  exact run_g F rm gd hx J (bind_pos F hb hd J.kIn r1 q2) (r1.append hd) q2
/-- o.m() -/
theorem pe_gmeth0 {pl : Sem Bool} (he : PE X o ta) (c : Cls X.K C) (hm : Meth X.K C m f) (F : Gd X.prog X.w X.K X.mg X.base CX k f fd ps sp) (rm : Room k X.A) (gd : X.A.guards = some []) (hb : Binds X.K fd ps ds) (hd : Vals dvs ds) (hx : Passes CX X E)
    (ht : eval (.Call (.Attribute o m apos) [] [] pos) X.env = (do
      let w ← eval o X.env
      standAt apos.atName
      let (g, a) ← holding [w] (getMethod w m pl)
      callWith pos g a (backTo pos (starEach [] X.env)) (backToKw pos (keywordEach [] X.env))) := by rfl) :
    PE X (.Call (.Attribute o m apos) [] [] pos) (tMeth C m sp dvs E ta tNil) := by
  refine ⟨fun pins s σ H Q I h => PySem.W.methodCall_KW (pl := pl) (thn (he.run pins s σ H _ I h) fun u s1 ⟨y, H1, J, ry, a, dx, fs, ey, ea, l, q⟩ => ?_) ht⟩
  subst ey
  obtain rfl : u = Value.ref a := ry
  have r1 : Vals [V.ref a] [Value.ref a] := .cons rfl .nil
  exact getmeth_ok J ea c hm l (PySem.W.callWith_K0 (first := [.ref a]) J.kIn hm.kp (run_g (us := [.ref a]) F rm gd hx J (bind_pos (vs := [.ref a]) F hb hd J.kIn r1 q) (r1.append hd) q))

/-- some of a list, by places -/
def sel {α : Type} (is : List Nat) (l : List α) : List α := is.filterMap fun i => l[i]?
theorem sel_vals : ∀ (is : List Nat) {vs : List V} {us : List Value}, Vals vs us → Vals (sel is vs) (sel is us)
  | [], _, _, _ => .nil
  | i :: is, vs, us, r => by
    have ih := sel_vals is r
    unfold sel at ih ⊢
    rw [List.filterMap_cons, List.filterMap_cons]
    cases h : vs[i]? with
    | none => rw [r.none_of h]; exact ih
    | some v =>
      obtain ⟨u, e, rv⟩ := r.get h
      rw [e]
      exact .cons rv ih
/-- keywords behind n values: the keywords' values in the order of is -/
theorem kbn_of {K : PySem.W.Frag} {qual : Str} {st : Stmt} (F : Fun K x qual st f fd) (n : Nat) (ks : List Str) (is : List Nat)
    (h : ∀ (kV doc pm : Value) (an : Option Addr) (cdv ct : Value) (us ws : List Value), us.length = n → ws.length = ks.length →
      bindArgs (PySem.W.fnOf x qual (defArgs st) (defBody st) (defScope st) .none kV doc pm an cdv ct) ⟨us, ks.zip ws⟩ = pure (ps.zip (us ++ sel is ws))) :
    KBn K fd ps n ks (fun us ws => us ++ sel is ws) (fun vs zs => vs ++ sel is zs) := by
  obtain ⟨oc, od, kV, doc, pm, an, cdv, ct, osl, rfl, _, _⟩ := F.ex
  exact ⟨fun s us ws _ l1 l2 => .of_eq (h kV doc pm an cdv ct us ws l1 l2), fun r rz => r.append (sel_vals is rz)⟩
variable {n : Nat} {g : List Value → List Value → List Value} {gV : List V → List V → List V}
/-- o.m(k = v, ..) -/
def tMethK (C : Addr) (m : Str) (j : Nat) (sp : Sp) (gV : List V → List V → List V) (E : XK) (ta : TE) (tk : TA) : TE := fun σ H Q => ta σ H fun x H1 => ∃ a dx fs, x = .ref a ∧ H1 a = some (.ins C dx fs) ∧ fs.lookup m = none ∧
  tk σ H1 fun zs H2 => zs.length = j ∧ sp (gV [x] zs) H2 Q E
theorem pe_gmethK {pl : Sem Bool} (he : PE X o ta) (c : Cls X.K C) (hm : Meth X.K C m f) (F : Gd X.prog X.w X.K X.mg X.base CX k f fd ps sp) (rm : Room k X.A) (gd : X.A.guards = some []) (hb : KBn X.K fd ps 1 ks g gV) (hx : Passes CX X E) (hkw : PK X kws tk)
    (hall : (backToKw pos (keywordEach kws X.env)).all (·.1.isSome) = true := by rfl) (hks : (backToKw pos (keywordEach kws X.env)).filterMap (·.1) = ks := by rfl)
    (hpl : ((backTo pos (starEach [] X.env)).any (·.1) || (backToKw pos (keywordEach kws X.env)).any (·.1.isNone)) = false := by rfl)
    (ht : eval (.Call (.Attribute o m apos) [] kws pos) X.env = (do
      let w ← eval o X.env
      standAt apos.atName
      let (g, a) ← holding [w] (getMethod w m pl)
      callWith pos g a (backTo pos (starEach [] X.env)) (backToKw pos (keywordEach kws X.env))) := by rfl) :
    PE X (.Call (.Attribute o m apos) [] kws pos) (tMethK C m ks.length sp gV E ta tk) := by
  refine ⟨fun pins s σ H Q I h => PySem.W.methodCall_KW (pl := pl) (thn (he.run pins s σ H _ I h) fun u s1 ⟨y, H1, I1, ry, a, dx, fs, ey, ea, l, q⟩ => ?_) ht⟩
  subst ey
  obtain rfl : u = Value.ref a := ry
  refine getmeth_ok I1 ea c hm l (PySem.W.callWith_KW0 (first := [.ref a]) (h₀ := X.base) I.ok.mod.kin hm.kp hall (thn (hkw.run pos pins s1 σ H1 _ I1 q) fun ws s2 ⟨zs, H2, J, rz, lz, q2⟩ => ⟨J.kIn, ?_⟩) hpl)
  rw [hks]
  have r1 : Vals [V.ref a] [Value.ref a] := .cons rfl .nil
  exact run_g (us := [.ref a]) F rm gd hx J (hb.to s2 [.ref a] ws J.kIn rfl (rz.length.symm.trans lz)) (hb.rel r1 rz) q2

/-! ### new instances -/
theorem und_make {A : Around} {us : List Value} {kw : List (Str × Value)} : (A.under (.builtin "type.__call__" ⟨.ref C :: us, kw⟩)).guards = A.guards := by
  first | rfl | simp [Around.under, Code.guards, Code.isGuard, guardIds, pushGuards]
theorem run_gmake {pins : List (Addr × Obj)} {σ : L2.St} {H : Hp} {s : Shared} {Q : VK} {us : List Value} {kw : List (Str × Value)} (gW : Value → List Value) (gZ : V → List V) (M : Mk X.K C f) (F : Gd X.prog X.w X.K X.mg X.base CX k f fd ps sp) (rm : Room (k + 1) X.A) (gd : X.A.guards = some [])
    (hb : ∀ (s : Shared) (y : Addr), X.K.In s.heap → BindsTo s fd ⟨.ref y :: us, kw⟩ (ps.zip (gW (.ref y)))) (hv : ∀ y : Addr, Vals (gZ (.ref y)) (gW (.ref y)))
    (hx : Passes CX X E) (I : Inv X pins σ H s)
    (h : ∀ y dy, H y = none → H dy = none → dy ≠ y → sp (gZ (.ref y)) (upd (upd H dy (.own y)) y (.ins C dy [])) (fun v H2 => v = .non ∧ Q (.ref y) H2) E) :
    wpAny (model X.prog X.w) X.A (call (.ref C) us kw) (EP X pins σ Q) X.xe s := by
  have hq := h (s.heap.objs.size + 1) s.heap.objs.size (I.hok.fresh (Nat.le_succ _)) (I.hok.fresh (Nat.le_refl _)) (Nat.ne_of_lt (Nat.lt_succ_self _))
  have J := Inv.made (C := C) I
  refine wpAny_call (make_map (f := f) I.kIn M.makes M.init (beq_iff_eq.mp M.fn) (codeAny_mono (F.go _ X.stack _ _ ⟨Value.ref (s.heap.objs.size + 1) :: us, kw⟩ _ _ _ E (rm.make C us kw)
    (und_make.trans gd) (J.env0.make C us kw) (hb _ (s.heap.objs.size + 1) J.kIn) (hv _) hq) fun out s' hq' => ?_))
  match out, hq' with
  | .error e, hq' => exact hx pins σ _ _ e s' J hq'
  | .ok (.ret u), hq' =>
    obtain ⟨v, H', I3, rv, ev, q3⟩ := J.after hq'
    subst ev
    exact ⟨rv, ⟨V.ref (s.heap.objs.size + 1), H', I3, rfl, q3⟩⟩
/-- C(e, ..) -/
theorem pe_gmake (M : Mk X.K C f) (F : Gd X.prog X.w X.K X.mg X.base CX k f fd ps sp) (rm : Room (k + 1) X.A) (gd : X.A.guards = some []) (gl : Gl X x) (at_ : X.mg x = some (.ref C)) (hb : Binds X.K fd ps ds) (hd : Vals dvs ds) (hx : Passes CX X E)
    (ha : PA X (e :: es) t) (hdb : (x == ("__debug__" : Str)) = false := by decide) (he : starEach (e :: es) X.env = (false, eval e X.env) :: starEach es X.env := by rfl) (hpl : (backTo pos (starEach es X.env)).any (·.1) = false := by rfl) :
    PE X (.Call (.Name x p) (e :: es) [] pos) (tMake C sp dvs E t) := by
  refine ⟨fun pins s σ H Q I h => wpAny_Call_Name_kw (ld_glob I gl at_ (PySem.W.callWith_K (h₀ := X.base) I.ok.mod.kin M.kp (thn (ha.run pos pins s σ H _ I h) fun us s1 ⟨vs, H1, J, r, q⟩ => ⟨J.kIn, ?_⟩) he hpl) hdb)⟩
  have rr : ∀ y : Addr, Vals (V.ref y :: vs ++ dvs) (Value.ref y :: us ++ ds) := fun y => .cons rfl (r.append hd)
  have hl : ∀ y : Addr, (Value.ref y :: us ++ ds).length = ps.length := fun y => by
    have e := (rr y).length
    have q1 := q (s1.heap.objs.size + 1) s1.heap.objs.size (J.hok.fresh (Nat.le_succ _)) (J.hok.fresh (Nat.le_refl _)) (Nat.ne_of_lt (Nat.lt_succ_self _))
    have e1 := F.len _ _ _ _ q1
    rw [← e, ← e1]
    simp
  exact run_gmake (fun y => y :: us ++ ds) (fun y => y :: vs ++ dvs) M F rm gd (fun s y KX => hb s (.ref y :: us) KX (hl y)) rr hx J q
/-- C(k = v, ..) -/
def tMakeKG (C : Addr) (j : Nat) (sp : Sp) (gV : List V → List V → List V) (E : XK) (tk : TA) : TE := fun σ H Q => tk σ H fun zs H2 => zs.length = j ∧
  ∀ x dx, H2 x = none → H2 dx = none → dx ≠ x → sp (gV [.ref x] zs) (upd (upd H2 dx (.own x)) x (.ins C dx [])) (fun v H3 => v = .non ∧ Q (.ref x) H3) E
theorem pe_gmakeK (M : Mk X.K C f) (F : Gd X.prog X.w X.K X.mg X.base CX k f fd ps sp) (rm : Room (k + 1) X.A) (gd : X.A.guards = some []) (gl : Gl X x) (at_ : X.mg x = some (.ref C)) (hb : KBn X.K fd ps 1 ks g gV) (hx : Passes CX X E)
    (hkw : PK X kws tk) (hall : (backToKw pos (keywordEach kws X.env)).all (·.1.isSome) = true := by rfl) (hks : (backToKw pos (keywordEach kws X.env)).filterMap (·.1) = ks := by rfl)
    (hdb : (x == ("__debug__" : Str)) = false := by decide)
    (hpl : ((backTo pos (starEach [] X.env)).any (·.1) || (backToKw pos (keywordEach kws X.env)).any (·.1.isNone)) = false := by rfl) :
    PE X (.Call (.Name x p) [] kws pos) (tMakeKG C ks.length sp gV E tk) := by
  refine ⟨fun pins s σ H Q I h => wpAny_Call_Name_kw (ld_glob I gl at_ (PySem.W.callWith_KW0 (first := []) (h₀ := X.base) I.ok.mod.kin M.kp hall (thn (hkw.run pos pins s σ H _ I h) fun ws s2 ⟨zs, H2, J, rz, lz, q2⟩ => ⟨J.kIn, ?_⟩) hpl) hdb)⟩
  rw [hks]
  exact run_gmake (us := []) (fun y => g [y] ws) (fun y => gV [y] zs) M F rm gd (fun s y KX => hb.to s [.ref y] ws KX rfl (rz.length.symm.trans lz)) (fun y => hb.rel (.cons rfl .nil) rz) hx J q2
end
end KG

set_option Elab.async false
set_option linter.all false
set_option maxRecDepth 100000
set_option maxHeartbeats 4000000
/-! KR: the end of a law over such promises; repr of data, str of an own object, == and != by an own __eq__. -/
namespace KG
open PySem PySem.Spec PyProof.Rows L2

/-! ### the end: the law's def is called where nothing is shown -/
theorem law_gd {P : Program} {w : World} {K : PySem.W.Frag} {mg mb : Str → Option Value} {CX : CXT} {k : Nat} {fa a : Addr} {fd : FuncData} {x : Str} {sp : Sp} {s1 : Shared} {vs : List Value} {ns : List Int}
    (kin : K.In s1.heap) (nsm : s1.heap.Ns mainGlobals mg) (nsb : s1.heap.Ns builtinsNs mb) (mbb : ∀ x : Str, x ≠ "__name__" → mb x = bootBuiltins x) (lim : s1.heap.NoLimit) (nog : s1.gens = #[])
    (atA : s1.heap.get? a = some { cls := .type "list", data := .seq vs.toArray }) (isn : IntsAre vs ns) (small : ns.length ≤ sizeLine) (rm : Room k callerA)
    (F : ∀ base : Heap, K.In base → base.Ns mainGlobals mg → Gd P w K mg base CX k fa fd [x] sp) (bt : ∀ (s : Shared) (u : Value), BindsTo s fd ⟨[u], []⟩ [(x, u)])
    (start_ : ∀ H : Hp, Only H → SqL K H a (ns.map V.int) → sp [.ref a] H (fun v _ => v = .bl true) fun _ _ _ => False)
    (quiet : ∀ H e s', CX [] H s1 (fun _ _ _ => False) e s' → False) :
    codeAny (model P w) callerA (.call (.ref fa) ⟨[.ref a], []⟩) (fun r s' => r = .ok (.ret (.bool true)) ∧ OldK s1.heap s'.heap ∧ s'.os = s1.os ∧ AllBare s'.gens) s1 := by
  have rv := vals_ints isn
  have vlen := isn.length
  have from_ : ∀ H : Hp, Only H → SqL K H a (ns.map V.int) → HOk P w H s1.heap → (∀ b, H b ≠ none → b = a) → (H a ≠ none → K.lookup a = none) →
      codeAny (model P w) callerA (.call (.ref fa) ⟨[.ref a], []⟩) (fun r s' => r = .ok (.ret (.bool true)) ∧ OldK s1.heap s'.heap ∧ s'.os = s1.os ∧ AllBare s'.gens) s1 := by
    intro H only sq hok onlyA notK
    have free_of : ∀ {b : Addr} {o : Obj}, (H b ≠ none → b = a → False) → H b = none := fun {b o} h => by
      by_cases z : H b = none
      · exact z
      · exact (h z (onlyA b z)).elim
    have dict_free : ∀ {b : Addr} {o : Obj} {es : Array DictEntry} {ep : Nat}, s1.heap.get? b = some o → o.data = .dict es ep → H b = none := fun {b o es ep} e d =>
      free_of (o := o) fun _ eb => by
        rw [eb, atA] at e
        cases e
        exact nomatch d
    have ns_hid : ∀ {b : Addr} {m : Str → Option Value}, s1.heap.Ns b m → (hidT s1.heap H).Ns b m :=
      fun {b m} ⟨o, es, ep, e, d, r⟩ => ⟨o, es, ep, hidT_get e (dict_free e d), d, r⟩
    have kin_hid : K.In (hidT s1.heap H) := fun b o e => hidT_get (kin b o e) (free_of (o := o) fun z eb => by
      rw [eb] at e z
      rw [notK z] at e
      cases e)
    have mod : Mod K mg (hidT s1.heap H) := ⟨kin_hid, ns_hid nsm, ⟨mb, ns_hid nsb, mbb⟩, lim.elim fun mc h => ⟨mc, ns_hid h.1, h.2⟩⟩
    have e0 : Env0 P w K mg (hidT s1.heap H) callerA [] s1 H := ⟨rfl, mod, fun b o e => of_hidT e, Nat.le_of_eq (hidT_size _ _), trivial, fun b hb => absurd (show b ∈ ([] : List Addr) from hb) List.not_mem_nil, hok, .of_eq nog⟩
    refine codeAny_mono ((F _ kin_hid (ns_hid nsm)).go callerA [] s1 H ⟨[.ref a], []⟩ [.ref a] [.ref a] _ _ rm rfl e0 (bt s1 (.ref a)) (.cons rfl .nil) (start_ H only sq)) fun r s' h => ?_
    match r, h with
    | .error e, h => exact (quiet H e s' h).elim
    | .ok (.ret u), h =>
      obtain ⟨v, H', os, bare, un, hok', r', q⟩ := h
      have q' : v = .bl true := q
      subst q'
      obtain rfl : u = Value.bool true := r'
      refine ⟨rfl, OldK.of_keep fun b o e => ?_, os, bare⟩
      cases z : H b with
      | none => exact un.keep b o e z (by intro y; cases y) (by simp)
      | some t =>
        rcases only b with y | ⟨ob, xs, y⟩
        · rw [z] at y
          cases y
        · have y2 := un.frzs b ob _ y
          obtain ⟨g1, _⟩ := hok b _ y
          obtain ⟨g2, _⟩ := hok' b _ y2
          rw [e] at g1
          cases g1
          exact g2
  cases hk : K.lookup a with
  | some o =>
    have e := kin a o hk
    rw [atA] at e
    cases e
    exact from_ (fun _ => none) (fun _ => .inl rfl) (.inr ⟨_, vs.toArray, _, hk, rfl, rfl, rfl, by rw [List.size_toArray, vlen]; exact small, by simpa using rv⟩) (fun b u z => by cases z) (fun b z => absurd rfl z) fun z => absurd rfl z
  | none =>
    have at_a : ∀ {b : Addr} {u : HO}, (if b = a then some (HO.frz { cls := .type "list", data := .seq vs.toArray } (.lst (ns.map V.int))) else none) = some u → b = a := fun {b u} z => by
      by_cases hb : b = a
      · exact hb
      · rw [if_neg hb] at z
        cases z
    refine from_ (fun b => if b = a then some (.frz { cls := .type "list", data := .seq vs.toArray } (.lst (ns.map V.int))) else none) (fun b => ?_) (.inl (.inr ⟨{ cls := .type "list", data := .seq vs.toArray }, if_pos rfl⟩)) (fun b u z => ?_) (fun b z => ?_) fun _ => hk
    · by_cases hb : b = a
      · exact .inr ⟨_, _, if_pos hb⟩
      · exact .inl (if_neg hb)
    · obtain rfl := at_a z
      have z' := (if_pos rfl).symm.trans z
      cases z'
      exact ⟨atA, by rw [List.length_map]; exact small, vs, _, rv, atA⟩
    · by_cases hb : b = a
      · exact hb
      · exact absurd (if_neg hb) z

/-- the law's walk, from its promise where nothing is shown -/
theorem walk_gd {l : PySem.W.OpenLaw} {n k : Nat} {q : Program} {loose : List Str} {XP : (Str → Option Value) → Heap → Prop} {YP : World → Heap → Prop} {d : DefRec} {K : Params → PySem.W.Frag} {CX : World → CXT} {sp : World → Sp} {x : Str}
    (most : l.most = some n) (n2 : n ≤ sizeLine) (nod : d.params.defaults = []) (rm : Room k callerA)
    (hY : ∀ (w : World) (h : Heap), YP w h → (K w.params).In h)
    (F : ∀ (w : World) (mg : Str → Option Value) (fa : Addr) (h : Heap), (K w.params).In h → h.Ns mainGlobals mg → mg d.name = some (.ref fa) →
      ∃ fd : FuncData, (∀ (s : Shared) (u : Value), BindsTo s fd ⟨[u], []⟩ [(x, u)]) ∧
        ∀ base : Heap, (K w.params).In base → base.Ns mainGlobals mg → Gd l.prog w (K w.params) mg base (CX w) k fa fd [x] (sp w))
    (start_ : ∀ (w : World) (H : Hp) (a : Addr) (ns : List Int), ns.length ≤ n → Only H → SqL (K w.params) H a (ns.map V.int) → sp w [.ref a] H (fun v _ => v = .bl true) fun _ _ _ => False)
    (quiet : ∀ (w : World) (H : Hp) (s : Shared) (e : Value) (s' : Shared), CX w [] H s (fun _ _ _ => False) e s' → False) :
    PySem.W.WalkO q loose XP YP l.row.toRowW d [] (fun f vs => PySem.call f vs) := by
  refine Att.attach_call most nod fun w s0 s1 mg mb fa o pm cd doc a vs ns G Y ho hd hcd hmg hobj hints hlen hg => ?_
  have kin := hY w _ Y
  obtain ⟨fd, hb, hF⟩ := F w mg fa _ kin G.T.g hmg
  exact law_gd kin G.T.g G.T.b G.T.builtins G.T.nolimit hg hobj hints (Nat.le_trans hlen n2) rm hF hb (fun H hO hS => start_ w H a ns hlen hO hS) fun H e s' => quiet w H s1 e s'

/-- .. where the promise hangs on the written part alone -/
theorem walk_gdK {l : PySem.W.OpenLaw} {n k : Nat} {q : Program} {loose : List Str} {XP : (Str → Option Value) → Heap → Prop} {YP : World → Heap → Prop} {d : DefRec} {K : Params → PySem.W.Frag} {CX : CXT} {sp : PySem.W.Frag → Sp} {x : Str}
    (most : l.most = some n) (n2 : n ≤ sizeLine) (nod : d.params.defaults = []) (rm : Room k callerA)
    (hY : ∀ (w : World) (h : Heap), YP w h → (K w.params).In h)
    (F : ∀ (w : World) (mg : Str → Option Value) (fa : Addr) (h : Heap), (K w.params).In h → h.Ns mainGlobals mg → mg d.name = some (.ref fa) →
      ∃ fd : FuncData, (∀ (s : Shared) (u : Value), BindsTo s fd ⟨[u], []⟩ [(x, u)]) ∧
        ∀ base : Heap, (K w.params).In base → base.Ns mainGlobals mg → Gd l.prog w (K w.params) mg base CX k fa fd [x] (sp (K w.params)))
    (start_ : ∀ (K : PySem.W.Frag) (H : Hp) (a : Addr) (ns : List Int), ns.length ≤ n → Only H → SqL K H a (ns.map V.int) → sp K [.ref a] H (fun v _ => v = .bl true) fun _ _ _ => False)
    (quiet : ∀ (H : Hp) (s : Shared) (e : Value) (s' : Shared), CX [] H s (fun _ _ _ => False) e s' → False) :
    PySem.W.WalkO q loose XP YP l.row.toRowW d [] (fun f vs => PySem.call f vs) :=
  walk_gd (K := K) (CX := fun _ => CX) (sp := fun w => sp (K w.params)) most n2 nod rm hY F (fun w H a ns h1 h2 h3 => start_ (K w.params) H a ns h1 h2 h3) fun _ H s e s' => quiet H s e s'

/-! ### repr of data -/
section
variable {X : Cx}
/-- repr(x), x data: none, bools, ints, texts, lists, tuples -/
def rRepr (K : PySem.W.Frag) : List V → Hp → VK → Prop := fun xs H Q => ∃ x d, xs = [x] ∧ Dp K H x d ∧ d.showable = true ∧ d.hasDict = false ∧ d.depth ≤ 40 ∧ d.shown.length ≤ sizeLine ∧ Q (.str d.shown) H
theorem call_repr {k : Nat} (rm : Room k X.A) (gd : X.A.guards = some []) : CallR X (.builtin "repr") (rRepr X.K) := by
  intro pins s σ H xs us Q I r h
  obtain ⟨x, d, rfl, hd, sh, nd, dp, sz, q⟩ := h
  obtain ⟨u, rfl, r1⟩ := vals1 r
  obtain ⟨as, rd⟩ := Dp.reads I d x u hd r1
  have room := rm.units
  have fin : ∀ (s' : Shared) (tk : Tok), Inv X pins σ H s' → EP X pins σ Q (.str d.shown tk) s' := fun s' tk J => ⟨.str d.shown, H, J, ⟨tk, rfl⟩, q⟩
  have intsz : ∀ i : Int, d = .int i → i.natAbs.log2 < 1920 := fun i e => by
    subst e
    simpa [PyData.showable] using sh
  cases hd with
  | non =>
    cases r1
    rw [PyData.shown_none] at q
    exact PySem.P.repr_of_none ⟨.str _, H, I.tok _, ⟨_, rfl⟩, q⟩
  | bl b =>
    cases r1
    rw [PyData.shown_bool] at q
    exact PySem.P.repr_of_bool ⟨.str _, H, I.tok _, ⟨_, rfl⟩, by cases b <;> exact q⟩
  | int i =>
    obtain ⟨t, rfl⟩ := r1
    rw [PyData.shown_int] at q
    exact PySem.P.repr_of_int (intsz i rfl) ⟨.str _, H, I.tok _, ⟨_, rfl⟩, q⟩
  | str z =>
    obtain ⟨t, rfl⟩ := r1
    rw [PyData.shown_str] at q sz
    exact PySem.P.repr_of_str ⟨.str _, H, I.tok _, ⟨_, rfl⟩, q⟩ sz
  | lst _ _ =>
    cases r1
    exact repr_of_reads' rd sh (fun z => by rw [nd] at z; cases z) gd (by omega) (fun _ _ z => z) (fun h' u tk keep => fin _ _ (I.kept (t' := tk) keep)) sz
  | tup _ _ =>
    cases r1
    exact repr_of_reads' rd sh (fun z => by rw [nd] at z; cases z) gd (by omega) (fun _ _ z => z) (fun h' u tk keep => fin _ _ (I.kept (t' := tk) keep)) sz
end

/-! ### str(o), o an own object with its own __str__ -/
section
variable {X : Cx} {CX : CXT} {k : Nat} {f C : Addr} {fd : FuncData} {ps : List Str} {sp : Sp} {E : XK}
theorem in1_gd {A : Around} (h : A.guards = some []) : A.in1.guards = some [] := h
def rStrO (C : Addr) (sp : Sp) (E : XK) : List V → Hp → VK → Prop := fun xs H Q => ∃ a dx fs, xs = [.ref a] ∧ H a = some (.ins C dx fs) ∧ sp [.ref a] H (fun v H' => ∃ z, v = .str z ∧ Q (.str z) H') E
theorem call_strO (F : Gd X.prog X.w X.K X.mg X.base CX k f fd ps sp) (rm : Room (k + 2) X.A) (gd : X.A.guards = some []) (hs : PySem.W.findIn X.K (.ref C) "__str__" = some (some (.ref f))) (hf : PySem.W.isFn X.K (.ref f) = true)
    (hb : Binds X.K fd ps []) (hx : Passes CX X E) : CallR X (.type "str") (rStrO C sp E) := by
  intro pins s σ H xs us Q I r h
  obtain ⟨a, dx, fs, rfl, ea, q⟩ := h
  obtain ⟨u, rfl, r1⟩ := vals1 r
  obtain rfl : u = Value.ref a := r1
  obtain ⟨mA, J, _⟩ := ins_get I.hok ea
  obtain ⟨od, J, _⟩ := J.look
  have room := rm.units
  refine PySem.W.kso_call (by show X.A.units + 1 + 1 < cLine; omega) I.kIn J hs hf ?_
  have r2 : Vals [V.ref a] [Value.ref a] := .cons rfl .nil
  have bt := bind_pos (dvs := []) (vs := [V.ref a]) F hb .nil I.kIn r2 q
  refine wpAny_mono (run_at (us := [.ref a]) F rm.in1.in1 (in1_gd (in1_gd gd)) I.env0.in1.in1 (fun e s' hq => hx pins σ H s e s' I hq) I bt r2 q) (fun v s' hv => ?_) fun _ _ z => z
  obtain ⟨z, H', J', rz, y, ey, q'⟩ := hv
  subst ey
  obtain ⟨t, rfl⟩ := rz
  exact ⟨.str y, H', J', ⟨t, rfl⟩, q'⟩

/-! ### == and != by an own __eq__ -/
theorem ne_bound {M : Model} {A : Around} {W : Value → Shared → Prop} {s : Shared} {K : PySem.W.Frag} {x C : Addr} {ox : Obj} {od : Option Obj} {args : List Value} {Q : Option Value → Shared → Prop} (kin : K.In s.heap) (J : PySem.W.InstAt s.heap x ox C od)
    (hs : PySem.W.findIn K (.ref C) "__ne__" = some (some (.builtin "object.__ne__"))) (h : wpAny M A (call (.builtin "object.__ne__") (.ref x :: args)) (fun v => Q (some v)) W s) :
    wpAny M A (callSpecialIfBound? (.ref x) "__ne__" args) Q W s := by
  simp only [callSpecialIfBound?, bindSpecialIfBound?]
  refine wpAny_holding (wpAny_bind (wpAny_bind (wpAny_bind (J.type.here ((PySem.W.looks_findIn kin hs).here ?_)))))
  refine wpAny_bind (wpAny_askSetting (wpAny_ite ?_))
  have last : wpAny M A (call (.builtin "object.__ne__") ([.ref x] ++ args) >>= fun v => pure (some v)) Q W s :=
    wpAny_bind (wpAny_mono h (fun v s' z => wpAny_pure z) fun _ _ z => z)
  split
  · exact wpAny_bind (wpAny_of_eq (F.cmp_object.ne.bind _) (wpAny_pure (by exact last)))
  · exact wpAny_tryCatch (wpAny_bind (wpAny_of_eq (F.cmp_object.ne.bind _) (wpAny_pure (by exact last))))
theorem ne_own {prog : Program} {w : World} {A : Around} {W : Value → Shared → Prop} {s : Shared} {K : PySem.W.Frag} {x C f : Addr} {ox : Obj} {od : Option Obj} {b tb : Value} {Q : Value → Shared → Prop} (hu : A.units + 1 < cLine) (kin : K.In s.heap) (J : PySem.W.InstAt s.heap x ox C od)
    (hb : PySem.W.Looks (model prog w) s.heap (typeOf b) tb) (hn : PySem.W.notFirst K C tb = true) (hm : PySem.W.mroIn K C (.type "object") = some true)
    (hs : PySem.W.findIn K (.ref C) "__ne__" = some (some (.builtin "object.__ne__"))) (he : PySem.W.findIn K (.ref C) "__eq__" = some (some (.ref f))) (hf : PySem.W.isFn K (.ref f) = true)
    (h : wpAny (model prog w) A.in1 (call (.ref f) [.ref x, b]) (fun v s' => ∃ c, v = .bool c ∧ Q (.bool (!c)) s') W s) : wpAny (model prog w) A (richCompare .NotEq (.ref x) b) Q W s := by
  have one : wpAny (model prog w) A (tryCompare (.ref x) "__ne__" b) (fun r s' => ∃ v, r = some v ∧ Q v s') W s := by
    unfold tryCompare
    refine wpAny_bind (ne_bound kin J hs (wpAny_call (codeAny_call_builtin F.cmp_object.ne.plain F.cmpEntry_ne
      (PySem.W.check_slot F.cmpKind_ne F.cmpSplit_ne (J.type.andThen (PySem.W.looks_mroIn kin hm)) (F.cmpArgs_ne _ _) ?_))))
    show wpAny _ _ (Builtin.«object.__ne__» ⟨[.ref x, b], []⟩) _ _ s
    unfold Builtin.«object.__ne__»
    refine wpAny_bind (m := slotArgs "__ne__" 1 _) (wpAny_pure ?_)
    refine wpAny_bind (wpAny_cRoomFor (by show A.units + 1 < cLine; omega) ?_)
    refine wpAny_bind (m := callSpecialIfBound? (.ref x) (Str.ofString "__eq__") [b]) (PySem.W.ifBound_K kin J he hf (wpAny_mono h (fun v s' hv => ?_) fun _ _ z => z))
    obtain ⟨c, rfl, q⟩ := hv
    refine wpAny_bind (wpAny_truthy_bool ?_)
    exact wpAny_pure (wpAny_pure ⟨_, rfl, q⟩)
  unfold richCompare
  simp only [oneThing_ref]
  refine wpAny_holding (wpAny_bind (wpAny_cRoomFor (by omega) ?_))
  refine wpAny_bind (J.type.here (wpAny_bind (hb.here ?_)))
  split
  · rename_i q
    have e : PySem.W.subIn K tb (.ref C) = some false := by
      rcases Bool.or_eq_true_iff.mp hn with e | e
      · rw [beq_iff_eq.mp e] at q
        simp at q
      · exact beq_iff_eq.mp e
    refine wpAny_bind ((PySem.W.looks_subIn kin e).here ?_)
    simp only [Bool.false_eq_true, if_false]
    refine wpAny_bind (m := tryCompare (.ref x) _ b) (wpAny_mono one (fun r s' z => ?_) fun _ _ e => e)
    obtain ⟨v, rfl, hq⟩ := z
    exact wpAny_pure hq
  · refine wpAny_bind (wpAny_pure ?_)
    simp only [Bool.false_eq_true, if_false]
    refine wpAny_bind (m := tryCompare (.ref x) _ b) (wpAny_mono one (fun r s' z => ?_) fun _ _ e => e)
    obtain ⟨v, rfl, hq⟩ := z
    exact wpAny_pure hq

/-- o == y, o != y: the own __eq__ answers (y: the same class, or a thing whose type is no class below it) -/
def rEqO (K : PySem.W.Frag) (C : Addr) (neg : Bool) (sp : Sp) (E : XK) : R2 := fun x y H Q => ∃ a dx fs t, x = .ref a ∧ H a = some (.ins C dx fs) ∧ TyX K H y t ∧ PySem.W.notFirst K C t = true ∧
  sp [.ref a, y] H (fun v H' => ∃ c, v = .bl c ∧ Q (.bl (if neg then !c else c)) H') E
theorem op_eqO (F : Gd X.prog X.w X.K X.mg X.base CX k f fd ps sp) (rm : Room k X.A) (gd : X.A.guards = some []) (hs : PySem.W.findIn X.K (.ref C) "__eq__" = some (some (.ref f))) (hf : PySem.W.isFn X.K (.ref f) = true)
    (hb : Binds X.K fd ps []) (hx : Passes CX X E) : OpR X (compareOp .Eq) (rEqO X.K C false sp E) := by
  intro pins s σ H x y v u Q I rx ry h
  obtain ⟨a, dx, fs, t, rfl, ea, ty, nf, q⟩ := h
  obtain rfl : v = Value.ref a := rx
  obtain ⟨mA, J, _⟩ := ins_get I.hok ea
  obtain ⟨od, J, _⟩ := J.look
  obtain ⟨m, fr⟩ := I.fr
  obtain ⟨_, Z, pz, _⟩ := kit_of I ry ty
  have r2 : Vals [V.ref a, y] [Value.ref a, u] := .cons rfl (.cons ry .nil)
  have bt := bind_pos (dvs := []) (vs := [V.ref a, y]) F hb .nil I.kIn r2 q
  refine PySem.W.cmp_K (op := .Eq) rm.units0 fr I.ok.mod.kin J (Z.ty _ _ I.kIn pz) nf hs hf ?_
  refine wpAny_mono (run_g (us := [.ref a, u]) F rm gd hx I bt r2 q) (fun v s' hv => ?_) fun _ _ z => z
  obtain ⟨z, H', J', rz, c, ez, q'⟩ := hv
  subst ez
  obtain rfl : v = Value.bool c := rz
  exact ⟨.bl c, H', J', rfl, q'⟩
theorem op_neO (F : Gd X.prog X.w X.K X.mg X.base CX k f fd ps sp) (rm : Room (k + 1) X.A) (gd : X.A.guards = some []) (hs : PySem.W.findIn X.K (.ref C) "__eq__" = some (some (.ref f))) (hf : PySem.W.isFn X.K (.ref f) = true)
    (hn : PySem.W.findIn X.K (.ref C) "__ne__" = some (some (.builtin "object.__ne__"))) (hm : PySem.W.mroIn X.K C (.type "object") = some true)
    (hb : Binds X.K fd ps []) (hx : Passes CX X E) : OpR X (compareOp .NotEq) (rEqO X.K C true sp E) := by
  intro pins s σ H x y v u Q I rx ry h
  obtain ⟨a, dx, fs, t, rfl, ea, ty, nf, q⟩ := h
  obtain rfl : v = Value.ref a := rx
  obtain ⟨mA, J, _⟩ := ins_get I.hok ea
  obtain ⟨od, J, _⟩ := J.look
  obtain ⟨_, Z, pz, _⟩ := kit_of I ry ty
  have r2 : Vals [V.ref a, y] [Value.ref a, u] := .cons rfl (.cons ry .nil)
  have bt := bind_pos (dvs := []) (vs := [V.ref a, y]) F hb .nil I.kIn r2 q
  have room := rm.units
  refine ne_own (by omega) I.kIn J (Z.ty _ _ I.kIn pz) nf hm hn hs hf ?_
  refine wpAny_mono (run_at (us := [.ref a, u]) F rm.in1 (in1_gd gd) I.env0.in1 (fun e s' hq => hx pins σ H s e s' I hq) I bt r2 q) (fun v s' hv => ?_) fun _ _ z => z
  obtain ⟨z, H', J', rz, c, ez, q'⟩ := hv
  subst ez
  obtain rfl : v = Value.bool c := rz
  exact ⟨c, rfl, .bl (!c), H', J', rfl, q'⟩
end
end KG

set_option Elab.async false
set_option linter.all false
set_option maxRecDepth 100000
set_option maxHeartbeats 4000000
/-! KS: defs, methods and classes by name; the readings' steps, one lemma each, for walk_at "go". -/
namespace KG
open PySem PySem.Spec PyProof.Rows L2

/-! ### defs by name -/
/-- how the arguments of a def of the text bind, by place -/
def BindOk (x qual : Str) (st : Stmt) (ps : List Str) : Prop := ∀ (kV doc pm : Value) (an : Option Addr) (cdv ct : Value) (us : List Value), us.length = ps.length →
  bindArgs (PySem.W.fnOf x qual (defArgs st) (defBody st) (defScope st) .none kV doc pm an cdv ct) ⟨us, []⟩ = pure (ps.zip us)
/-- .. n by place, then by keywords, is: the keywords' places -/
def BindOkK (x qual : Str) (st : Stmt) (ps : List Str) (n : Nat) (ks : List Str) (is : List Nat) : Prop := ∀ (kV doc pm : Value) (an : Option Addr) (cdv ct : Value) (us ws : List Value), us.length = n → ws.length = ks.length →
  bindArgs (PySem.W.fnOf x qual (defArgs st) (defBody st) (defScope st) .none kV doc pm an cdv ct) ⟨us, ks.zip ws⟩ = pure (ps.zip (us ++ sel is ws))
/-- the def st stands under the name x -/
structure DefAt (K : PySem.W.Frag) (mg : Str → Option Value) (x : Str) (st : Stmt) (ps : List Str) : Prop where
  ex : ∃ f fd, mg x = some (.ref f) ∧ Fun K x x st f fd ∧ Binds K fd ps []
theorem defAt_of {K : PySem.W.Frag} {h : Heap} {mg : Str → Option Value} (X : K.In h) (G : h.Ns mainGlobals mg) {x : Str} {st : Stmt} {ps : List Str} {f : Addr} {oc kV doc pm cdv ct : Value} {od an : Option Addr} {sl : Array (Option Value)}
    (a : PySem.W.nsIn K mainGlobals x = some (some (.ref f))) (l : K.lookup f = some ⟨oc, od, .func (PySem.W.fnOf x x (defArgs st) (defBody st) (defScope st) .none kV doc pm an cdv ct), sl⟩)
    (c : PySem.W.codeIn K cdv x = true) (k : PySem.W.keepIn K (.ref f) = true) (b : BindOk x x st ps) : DefAt K mg x st ps :=
  have F := fun_mk (st := st) l c k
  ⟨⟨f, _, PySem.W.mg_of X G a, F, F.binds b⟩⟩
/-- the method st of the class at C -/
structure MetAt (K : PySem.W.Frag) (C : Addr) (m qual : Str) (st : Stmt) (ps : List Str) (f : Addr) : Prop where
  ex : ∃ fd, Meth K C m f ∧ Fun K m qual st f fd ∧ Binds K fd ps []
theorem metAt_of {K : PySem.W.Frag} {C : Addr} {m qual : Str} {st : Stmt} {ps : List Str} {f : Addr} {oc kV doc pm cdv ct : Value} {od an : Option Addr} {sl : Array (Option Value)}
    (a : PySem.W.findIn K (.ref C) m = some (some (.ref f))) (i : PySem.W.isFn K (.ref f) = true) (l : K.lookup f = some ⟨oc, od, .func (PySem.W.fnOf m qual (defArgs st) (defBody st) (defScope st) .none kV doc pm an cdv ct), sl⟩)
    (c : PySem.W.codeIn K cdv qual = true) (k : PySem.W.keepIn K (.ref f) = true) (b : BindOk m qual st ps) : MetAt K C m qual st ps f :=
  have F := fun_mk (st := st) l c k
  ⟨⟨_, ⟨a, i, k⟩, F, F.binds b⟩⟩
/-- the def st, promised sp, nothing raised -/
def Cal (P : Program) (w : World) (K : PySem.W.Frag) (mg : Str → Option Value) (base : Heap) (j : Nat) (x : Str) (sp : Sp) : Prop :=
  ∃ f fd ps, mg x = some (.ref f) ∧ PySem.W.keepIn K (.ref f) = true ∧ Binds K fd ps [] ∧ Gd P w K mg base CX0 j f fd ps sp
def Met (P : Program) (w : World) (K : PySem.W.Frag) (mg : Str → Option Value) (base : Heap) (j : Nat) (C : Addr) (m : Str) (f : Addr) (sp : Sp) : Prop :=
  ∃ fd ps, Meth K C m f ∧ Binds K fd ps [] ∧ Gd P w K mg base CX0 j f fd ps sp
def MetK (P : Program) (w : World) (K : PySem.W.Frag) (mg : Str → Option Value) (base : Heap) (j : Nat) (C : Addr) (m : Str) (f : Addr) (ks : List Str) (is : List Nat) (sp : Sp) : Prop :=
  ∃ fd ps, Meth K C m f ∧ KBn K fd ps 1 ks (fun us ws => us ++ sel is ws) (fun vs zs => vs ++ sel is zs) ∧ Gd P w K mg base CX0 j f fd ps sp
section
variable {P : Program} {w : World} {K : PySem.W.Frag} {mg : Str → Option Value} {base : Heap} {k : Nat} {x m qual : Str} {st : Stmt} {ps N : List Str} {sp : Sp} {C f : Addr}
/-- a def by its body -/
theorem DefAt.cal (D : DefAt K mg x st ps) (sc : FnScope N ps (defScope st)) (len : ∀ vs H Q E, sp vs H Q E → vs.length = ps.length)
    (inner : ∀ (f : Addr) (cdv : Value) (A : Around) (outer : List Env) (s : Shared) (H : Hp) (vs : List V) (Q : VK) (E : XK),
      Room k (A.deeper (envOfC x (defScope st) s.heap.objs.size f cdv)) → (A.deeper (envOfC x (defScope st) s.heap.objs.size f cdv)).guards = some [] → sp vs H Q E →
      ∃ t, PSs (cxOf CX0 P w K mg base N x (defScope st) f cdv A outer s H E).nox (defBody st) t ∧ t { nx := fun _ H' => Q .non H', rt := Q } (start N vs) H) :
    Cal P w K mg base (k + 1) x sp := by
  obtain ⟨f, fd, a, F, b⟩ := D.ex
  exact ⟨f, fd, ps, a, F.kp, b, gd0 F sc len (inner f)⟩
theorem MetAt.gd (D : MetAt K C m qual st ps f) (sc : FnScope N ps (defScope st)) (len : ∀ vs H Q E, sp vs H Q E → vs.length = ps.length)
    (inner : ∀ (cdv : Value) (A : Around) (outer : List Env) (s : Shared) (H : Hp) (vs : List V) (Q : VK) (E : XK),
      Room k (A.deeper (envOfC qual (defScope st) s.heap.objs.size f cdv)) → (A.deeper (envOfC qual (defScope st) s.heap.objs.size f cdv)).guards = some [] → sp vs H Q E →
      ∃ t, PSs (cxOf CX0 P w K mg base N qual (defScope st) f cdv A outer s H E).nox (defBody st) t ∧ t { nx := fun _ H' => Q .non H', rt := Q } (start N vs) H) :
    ∃ fd, Meth K C m f ∧ Fun K m qual st f fd ∧ Binds K fd ps [] ∧ Gd P w K mg base CX0 (k + 1) f fd ps sp := by
  obtain ⟨fd, a, F, b⟩ := D.ex
  exact ⟨fd, a, F, b, gd0 F sc len inner⟩
end
section
variable {X : Cx} {j k : Nat} {x m qual : Str} {sp : Sp} {C f : Addr} {p pos apos : Pos} {e o : Expr} {es : List Expr} {kws : List Keyword} {ta te : TE} {t tk : TA} {ks : List Str} {is : List Nat} {pl : Sem Bool}
theorem pc (c : Cal X.prog X.w X.K X.mg X.base j x sp) (rm : Room k X.A) (hk : j ≤ k) (gd : X.A.guards = some []) (gl : Gl X x) (ha : PA X (e :: es) t)
    (hdb : (x == ("__debug__" : Str)) = false := by decide) (he : starEach (e :: es) X.env = (false, eval e X.env) :: starEach es X.env := by rfl) (hpl : (backTo pos (starEach es X.env)).any (·.1) = false := by rfl) :
    PE X (.Call (.Name x p) (e :: es) [] pos) (tCall sp [] E0 t) := by
  obtain ⟨f, fd, ps, a, kp, b, F⟩ := c
  exact pe_gcall F (rm.mono hk) gd gl a kp b .nil pass0 ha hdb he hpl
theorem pc0 (c : Cal X.prog X.w X.K X.mg X.base j x sp) (rm : Room k X.A) (hk : j ≤ k) (gd : X.A.guards = some []) (gl : Gl X x)
    (hdb : (x == ("__debug__" : Str)) = false := by decide) : PE X (.Call (.Name x p) [] [] pos) (tCall sp [] E0 tNil) := by
  obtain ⟨f, fd, ps, a, kp, b, F⟩ := c
  exact pe_gcall0 F (rm.mono hk) gd gl a kp b .nil pass0 hdb
theorem pm (c : Met X.prog X.w X.K X.mg X.base j C m f sp) (cl : Cls X.K C) (rm : Room k X.A) (hk : j ≤ k) (gd : X.A.guards = some []) (he : PE X o ta) (ha : PA X (e :: es) t)
    (hst : starEach (e :: es) X.env = (false, eval e X.env) :: starEach es X.env := by rfl) (hpl : (backTo pos (starEach es X.env)).any (·.1) = false := by rfl)
    (ht : eval (.Call (.Attribute o m apos) (e :: es) [] pos) X.env = (do
      let w ← eval o X.env
      standAt apos.atName
      let (g, a) ← holding [w] (getMethod w m pl)
      callWith pos g a (backTo pos (starEach (e :: es) X.env)) (backToKw pos (keywordEach [] X.env))) := by rfl) :
    PE X (.Call (.Attribute o m apos) (e :: es) [] pos) (tMeth C m sp [] E0 ta t) := by
  obtain ⟨fd, ps, hm, b, F⟩ := c
  exact pe_gmeth he cl hm F (rm.mono hk) gd b .nil pass0 ha hst hpl ht
theorem pm0 (c : Met X.prog X.w X.K X.mg X.base j C m f sp) (cl : Cls X.K C) (rm : Room k X.A) (hk : j ≤ k) (gd : X.A.guards = some []) (he : PE X o ta)
    (ht : eval (.Call (.Attribute o m apos) [] [] pos) X.env = (do
      let w ← eval o X.env
      standAt apos.atName
      let (g, a) ← holding [w] (getMethod w m pl)
      callWith pos g a (backTo pos (starEach [] X.env)) (backToKw pos (keywordEach [] X.env))) := by rfl) :
    PE X (.Call (.Attribute o m apos) [] [] pos) (tMeth C m sp [] E0 ta tNil) := by
  obtain ⟨fd, ps, hm, b, F⟩ := c
  exact pe_gmeth0 he cl hm F (rm.mono hk) gd b .nil pass0 ht
theorem pmK (c : MetK X.prog X.w X.K X.mg X.base j C m f ks is sp) (cl : Cls X.K C) (rm : Room k X.A) (hk : j ≤ k) (gd : X.A.guards = some []) (he : PE X o ta) (hkw : PK X kws tk)
    (hall : (backToKw pos (keywordEach kws X.env)).all (·.1.isSome) = true := by rfl) (hks : (backToKw pos (keywordEach kws X.env)).filterMap (·.1) = ks := by rfl)
    (hpl : ((backTo pos (starEach [] X.env)).any (·.1) || (backToKw pos (keywordEach kws X.env)).any (·.1.isNone)) = false := by rfl)
    (ht : eval (.Call (.Attribute o m apos) [] kws pos) X.env = (do
      let w ← eval o X.env
      standAt apos.atName
      let (g, a) ← holding [w] (getMethod w m pl)
      callWith pos g a (backTo pos (starEach [] X.env)) (backToKw pos (keywordEach kws X.env))) := by rfl) :
    PE X (.Call (.Attribute o m apos) [] kws pos) (tMethK C m ks.length sp (fun vs zs => vs ++ sel is zs) E0 ta tk) := by
  obtain ⟨fd, ps, hm, b, F⟩ := c
  exact pe_gmethK he cl hm F (rm.mono hk) gd b pass0 hkw hall hks hpl ht
end

/-! ### ways that meet behind a statement -/
def tMid (t u : TS) : TS := fun D σ H => ∃ M : L2.St → Hp → Prop, t { D with nx := M } σ H ∧ ∀ σ' H', M σ' H' → u D σ' H'
theorem pss_mid {X : Cx} {st : Stmt} {rest : List Stmt} {t u : TS} (h1 : PS X st t) (h2 : PSs X rest u) : PSs X (st :: rest) (tMid t u) := by
  refine ⟨fun pins s σ H D I h => ?_⟩
  obtain ⟨M, a, b⟩ := h
  refine wpAny_execs_cons (thn (h1.run pins s σ H { D with nx := M } I a) fun f s1 q => ?_)
  match f, q with
  | .next, ⟨σ', H', J, q⟩ => exact h2.run pins s1 σ' H' D J (b σ' H' q)
  | .ret v, q => exact q
  | .brk, q => exact q
  | .cont, q => exact q

/-! ### steps -/
/-- what a field's read, a field's store asks -/
def Fld (K : PySem.W.Frag) (f : Str) (x : V) (H : Hp) (Q : VK) : Prop := ∃ a C dx fs v, x = .ref a ∧ H a = some (.ins C dx fs) ∧ Cls K C ∧ NoAttr K C f ∧ fs.lookup f = some v ∧ Q v H
theorem fld {K : PySem.W.Frag} {f : Str} {a C dx : Addr} {fs : List (Str × V)} {v : V} {H : Hp} {Q : VK} (h : H a = some (.ins C dx fs)) (c : Cls K C) (n : NoAttr K C f) (l : fs.lookup f = some v) (q : Q v H) : Fld K f (.ref a) H Q := ⟨a, C, dx, fs, v, rfl, h, c, n, l, q⟩
def SFld (K : PySem.W.Frag) (f : Str) (y x : V) (H : Hp) (QH : Hp → Prop) : Prop := ∃ a C dx fs, x = .ref a ∧ H a = some (.ins C dx fs) ∧ Cls K C ∧ NoAttr K C f ∧ fs.length < 1000 ∧ QH (upd H a (.ins C dx (putF f y fs)))
/-- .. the heap behind it a letter -/
theorem sfld {K : PySem.W.Frag} {f : Str} {a C dx : Addr} {fs gs : List (Str × V)} {y : V} {H : Hp} {QH : Hp → Prop} (h : H a = some (.ins C dx fs)) (c : Cls K C) (n : NoAttr K C f) (l : fs.length < 1000) (e : putF f y fs = gs)
    (q : ∀ H' : Hp, H' a = some (.ins C dx gs) → (∀ b, b ≠ a → H' b = H b) → QH H') : SFld K f y (.ref a) H QH := ⟨a, C, dx, fs, rfl, h, c, n, l, q _ (by rw [← e]; exact upd_same) fun b nb => upd_ne nb⟩
/-- what the making of an instance asks -/
def Make (C : Addr) (sp : Sp) (args : V → List V) (E : XK) (H : Hp) (Q : VK) : Prop := ∀ x dx, H x = none → H dx = none → dx ≠ x → sp (args (.ref x)) (upd (upd H dx (.own x)) x (.ins C dx [])) (fun v H3 => v = .non ∧ Q (.ref x) H3) E
theorem make {C : Addr} {sp : Sp} {args : V → List V} {E : XK} {H : Hp} {Q : VK} (q : ∀ (x dx : Addr) (H' : Hp), H x = none → H' x = some (.ins C dx []) → Same H H' → sp (args (.ref x)) H' (fun v H3 => v = .non ∧ Q (.ref x) H3) E) : Make C sp args E H Q :=
  fun x dx nx ndx _ => q x dx _ nx upd_same fun b o e => by
    rw [upd_ne (ne_of_none e nx), upd_ne (ne_of_none e ndx)]
    exact e
/-- a dict's display, store and read -/
def DAll (p : Addr) (ps : List (V × V)) (Q : VK) (H : Hp) : Prop := H p = some (.dK []) ∧ ∃ kvs : List (Key × V), ps = kvs.map (fun kv => (kV kv.1, kv.2)) ∧ kvs.length ≤ 15 ∧ Q (.ref p) (upd H p (.dK (mergeK [] kvs)))
theorem dall {p : Addr} {ps : List (V × V)} {Q : VK} {H : Hp} {ks : List (Key × V)} (kvs : List (Key × V)) (h : H p = some (.dK [])) (e : ps = kvs.map (fun kv => (kV kv.1, kv.2))) (l : kvs.length ≤ 15) (m : mergeK [] kvs = ks)
    (q : ∀ H' : Hp, H' p = some (.dK ks) → (∀ b, b ≠ p → H' b = H b) → Q (.ref p) H') : DAll p ps Q H := ⟨h, kvs, e, l, q _ (by rw [← m]; exact upd_same) fun b nb => upd_ne nb⟩
def DPutQ (v x y : V) (H : Hp) (QH : Hp → Prop) : Prop := ∃ a H4, x = .ref a ∧ DPut H a y v H4 ∧ QH H4
theorem dput {v : V} {p : Addr} {H : Hp} {QH : Hp → Prop} {kvs ks : List (Key × V)} (k : Key) (h : H p = some (.dK kvs)) (l : kvs.length < sizeLine) (m : putK kvs k v = ks)
    (q : ∀ H' : Hp, H' p = some (.dK ks) → (∀ b, b ≠ p → H' b = H b) → QH H') : DPutQ v (.ref p) (kV k) H QH := ⟨p, _, rfl, DPut.k h l, q _ (by rw [← m]; exact upd_same) fun b nb => upd_ne nb⟩
def DGetQ (x y : V) (H : Hp) (Q : VK) : Prop := ∃ a v, x = .ref a ∧ DGet H a y (some v) ∧ Q v H
theorem dget {v : V} {p : Addr} {H : Hp} {Q : VK} {kvs : List (Key × V)} (k : Key) (h : H p = some (.dK kvs)) (e : valV kvs k = some v) (q : Q v H) : DGetQ (.ref p) (kV k) H Q := ⟨p, v, rfl, by rw [← e]; exact DGet.k h, q⟩
/-- what a for asks -/
def Loop (J : It) (g : TG) (tb : TS) (D : Ends) (σ : L2.St) (H : Hp) : Prop := ∃ W : Nat → Nat → L2.St → Hp → Prop, (∃ m, W 0 m σ H) ∧ ∀ i m σ H, W i m σ H →
  (J.stop i H ∧ D.nx σ H) ∨ (J.go i H ∧ ∃ N : L2.St → Hp → Prop, (∀ σ' H', N σ' H' → ∃ m', m' < m ∧ W (i + 1) m' σ' H') ∧ ∀ x H', J.yld i H x H' → g x σ H' fun σ2 H2 => tb { D with nx := N, ct := N, bk := D.nx } σ2 H2)
def OverT (K : PySem.W.Frag) (x : V) (H : Hp) (R : It → Hp → Prop) : Prop := ∃ a, x = .ref a ∧ (∃ xs, SqT K H a xs) ∧ R (Itt K a) H
theorem over_t {K : PySem.W.Frag} {a : Addr} {xs : List V} {H : Hp} {R : It → Hp → Prop} (h : SqT K H a xs) (q : R (Itt K a) H) : OverT K (.ref a) H R := ⟨a, rfl, ⟨xs, h⟩, q⟩
def OverL (K : PySem.W.Frag) (x : V) (H : Hp) (R : It → Hp → Prop) : Prop := ∃ a, x = .ref a ∧ (∃ xs, SqL K H a xs) ∧ R (Itl K a) H
theorem over_l {K : PySem.W.Frag} {a : Addr} {xs : List V} {H : Hp} {R : It → Hp → Prop} (h : SqL K H a xs) (q : R (Itl K a) H) : OverL K (.ref a) H R := ⟨a, rfl, ⟨xs, h⟩, q⟩
def OverR (vs : List V) (H : Hp) (R : It → Hp → Prop) : Prop := ∃ j : Int, vs = [.int j] ∧ -(2 ^ 62) ≤ j ∧ j < 2 ^ 62 ∧ R (Itr 0 j.toNat) H
theorem over_r {j : Int} {H : Hp} {R : It → Hp → Prop} (h1 : -(2 ^ 62) ≤ j) (h2 : j < 2 ^ 62) (q : R (Itr 0 j.toNat) H) : OverR [.int j] H R := ⟨j, rfl, h1, h2, q⟩
/-- what a method's call asks of the object -/
def Mth (C : Addr) (m : Str) (x : V) (H : Hp) (B : Prop) : Prop := ∃ a dx fs, x = .ref a ∧ H a = some (.ins C dx fs) ∧ fs.lookup m = none ∧ B
theorem mth {C a dx : Addr} {m : Str} {fs : List (Str × V)} {H : Hp} {B : Prop} (h : H a = some (.ins C dx fs)) (l : fs.lookup m = none) (q : B) : Mth C m (.ref a) H B := ⟨a, dx, fs, rfl, h, l, q⟩
/-- a tuple of the written part -/
def KTup (K : PySem.W.Frag) (a : Addr) (xs : List V) : Prop := ∃ (o : Obj) (its : Array Value) (n : Nat), K.lookup a = some o ∧ o.cls = .type "tuple" ∧ o.data = .seq its n ∧ its.size ≤ sizeLine ∧ Vals xs its.toList
theorem KTup.t {K : PySem.W.Frag} {a : Addr} {xs : List V} (h : KTup K a xs) (H : Hp) : SqT K H a xs := .inr h
/-- what a display asks: a new object -/
def New (o : List V → HO) (Q : VK) (xs : List V) (H : Hp) : Prop := xs.length ≤ sizeLine ∧ ∀ p, H p = none → Q (.ref p) (upd H p (o xs))
/-- .. the heap behind it a letter -/
theorem new {o : List V → HO} {Q : VK} {xs : List V} {H : Hp} (h : xs.length ≤ sizeLine) (q : ∀ (p : Addr) (H' : Hp), H p = none → H' p = some (o xs) → Same H H' → Q (.ref p) H') : New o Q xs H :=
  ⟨h, fun p np => q p _ np upd_same fun b u e => by rw [upd_ne (ne_of_none e np)]; exact e⟩
section
variable {σ : L2.St} {H : Hp} {Q : VK} {v : V} {ta tb te : TE} {t u : TS} {D : Ends} {i j : Int} {tc : TT} {QB : Bool → Hp → Prop} {QA : List V → Hp → Prop} {tr : TA} {r : R2}
theorem w_var {n : Nat} (h : σ[n]? = some (some v)) (q : Q v H) : tVar n σ H Q := ⟨v, h, q⟩
theorem w_c (q : Q v H) : tC v σ H Q := q
theorem w_op (q : ta σ H fun x H1 => tb σ H1 fun y H2 => r x y H2 Q) : tOp r ta tb σ H Q := q
theorem w_un {r : V → Hp → VK → Prop} (q : ta σ H fun x H1 => r x H1 Q) : tUn r ta σ H Q := q
theorem w_add (q : Q (.int (i + j)) H) : rI0 (fun i j => .int (i + j)) (.int i) (.int j) H Q := ⟨i, j, rfl, rfl, q⟩
theorem w_sub (q : Q (.int (i - j)) H) : rI0 (fun i j => .int (i - j)) (.int i) (.int j) H Q := ⟨i, j, rfl, rfl, q⟩
theorem w_mul (c : CMul i j) (q : Q (.int (i * j)) H) : rI CMul (fun i j => .int (i * j)) (.int i) (.int j) H Q := ⟨i, j, rfl, rfl, c, q⟩
theorem w_mod (c : 0 < j) (q : Q (.int (i % j)) H) : rI (fun _ j => 0 < j) (fun i j => .int (i % j)) (.int i) (.int j) H Q := ⟨i, j, rfl, rfl, c, q⟩
theorem w_fdiv (c : CDiv i j) (q : Q (.int (i / j)) H) : rI CDiv (fun i j => .int (i / j)) (.int i) (.int j) H Q := ⟨i, j, rfl, rfl, c, q⟩
theorem w_pow (c : CPow i j) (q : Q (.int (i ^ j.toNat)) H) : rI CPow (fun i j => .int (i ^ j.toNat)) (.int i) (.int j) H Q := ⟨i, j, rfl, rfl, c, q⟩
theorem w_and (q : Q (.int (Builtin.bitAnd i j)) H) : rI0 (fun i j => .int (Builtin.bitAnd i j)) (.int i) (.int j) H Q := ⟨i, j, rfl, rfl, q⟩
theorem w_or (q : Q (.int (Builtin.bitOr i j)) H) : rI0 (fun i j => .int (Builtin.bitOr i j)) (.int i) (.int j) H Q := ⟨i, j, rfl, rfl, q⟩
theorem w_xor (q : Q (.int (Builtin.bitXor i j)) H) : rI0 (fun i j => .int (Builtin.bitXor i j)) (.int i) (.int j) H Q := ⟨i, j, rfl, rfl, q⟩
theorem w_gt (q : Q (.bl (decide (j < i))) H) : rI0 (fun i j => .bl (decide (j < i))) (.int i) (.int j) H Q := ⟨i, j, rfl, rfl, q⟩
theorem w_lt (q : Q (.bl (decide (i < j))) H) : rI0 (fun i j => .bl (decide (i < j))) (.int i) (.int j) H Q := ⟨i, j, rfl, rfl, q⟩
theorem w_ge (q : Q (.bl (decide (j ≤ i))) H) : rI0 (fun i j => .bl (decide (j ≤ i))) (.int i) (.int j) H Q := ⟨i, j, rfl, rfl, q⟩
theorem w_le (q : Q (.bl (decide (i ≤ j))) H) : rI0 (fun i j => .bl (decide (i ≤ j))) (.int i) (.int j) H Q := ⟨i, j, rfl, rfl, q⟩
theorem w_eq {x y : V} (s : scal x y = true) (q : Q (.bl (decide (x = y))) H) : rEq x y H Q := ⟨s, q⟩
theorem w_ne {x y : V} (s : scal x y = true) (q : Q (.bl (!decide (x = y))) H) : rNe x y H Q := ⟨s, q⟩
theorem w_test (q : te σ H fun x H' => ∃ k, x = .bl k ∧ QB k H') : tTest te σ H QB := q
theorem w_tB (q : te σ H fun x H' => ∃ k, x = .bl k ∧ QB k H') : tB te σ H QB := q
theorem w_bl {b : Bool} {B : Bool → Prop} (q : B b) : ∃ k, V.bl b = .bl k ∧ B k := ⟨b, rfl, q⟩
theorem w_seq (q : t { D with nx := u D } σ H) : tSeq t u D σ H := q
theorem w_ret (q : te σ H D.rt) : tRet te D σ H := q
theorem w_next (q : D.nx σ H) : tNext D σ H := q
theorem w_asg {g : TG} (q : te σ H fun x H1 => g x σ H1 D.nx) : tAsg te g D σ H := q
theorem w_gname {n : Nat} {QS : L2.St → Hp → Prop} (q : QS (σ.set n (some v)) H) : gName n v σ H QS := q
theorem w_ifs (q : tc σ H fun b H1 => if b = true then t D σ H1 else u D σ H1) : tIfS tc t u D σ H := q
theorem w_ifx (q : tc σ H fun c H1 => if c = true then ta σ H1 Q else tb σ H1 Q) : tIf tc ta tb σ H Q := q
theorem w_nil (q : QA [] H) : tNil σ H QA := q
theorem w_cons (q : ta σ H fun x H1 => tr σ H1 fun xs H2 => QA (x :: xs) H2) : tCons ta tr σ H QA := q
theorem w_tup (q : tr σ H fun xs H1 => New HO.tup Q xs H1) : tTup tr σ H Q := q
theorem w_lst (q : tr σ H fun xs H1 => New HO.lst Q xs H1) : tLst tr σ H Q := q
theorem w_and2 {tt uu : TT} (q : tt σ H fun c H1 => if c = true then uu σ H1 QB else QB false H1) : tAnd tt uu σ H QB := q
theorem w_or2 {tt uu : TT} (q : tt σ H fun c H1 => if c = true then QB true H1 else uu σ H1 QB) : tOr tt uu σ H QB := q
theorem w_not {tt : TT} (q : tt σ H fun c H1 => QB (!c) H1) : tNot tt σ H QB := q
theorem w_cb {r : List V → Hp → VK → Prop} (q : tr σ H fun vs H1 => r vs H1 Q) : tCB r tr σ H Q := q
theorem w_call {sp : Sp} {dvs : List V} {E : XK} (q : tr σ H fun vs H1 => sp (vs ++ dvs) H1 Q E) : tCall sp dvs E tr σ H Q := q
theorem w_ixL {K : PySem.W.Frag} {p : Addr} {xs : List V} (h : SqL K H p xs) (a : atI xs i = some v) (q : Q v H) : rIxL K (.ref p) (.int i) H Q := ⟨p, xs, i, v, rfl, rfl, h, a, q⟩
theorem w_ixT {K : PySem.W.Frag} {p : Addr} {xs : List V} (h : SqT K H p xs) (a : atI xs i = some v) (q : Q v H) : rIxT K (.ref p) (.int i) H Q := ⟨p, xs, i, v, rfl, rfl, h, a, q⟩
theorem w_gsub {to ti : TE} {ts : TSet} {QS : L2.St → Hp → Prop} (q : to σ H fun o H1 => ti σ H1 fun i H2 => ts o i v H2 fun H3 => QS σ H3) : gSub to ti ts v σ H QS := q
theorem w_setL {p : Addr} {xs : List V} {n : Nat} {QH : Hp → Prop} (h : H p = some (.lst xs)) (a : ixN xs.length i = some n) (q : QH (upd H p (.lst (xs.set n v)))) : rSetL (.ref p) (.int i) v H QH := ⟨p, xs, i, n, rfl, rfl, h, a, q⟩
/-- the store, the heap behind it a letter -/
theorem w_setG {p : Addr} {xs ys : List V} {n : Nat} {QH : Hp → Prop} (h : H p = some (.lst xs)) (a : ixN xs.length i = some n) (e : xs.set n v = ys)
    (q : ∀ H' : Hp, H' p = some (.lst ys) → (∀ b, b ≠ p → H' b = H b) → QH H') : rSetL (.ref p) (.int i) v H QH := ⟨p, xs, i, n, rfl, rfl, h, a, q _ (by rw [← e]; exact upd_same) fun b nb => upd_ne nb⟩
theorem w_fld {K : PySem.W.Frag} {f : Str} (q : ta σ H fun x H1 => Fld K f x H1 Q) : tFld K ta f σ H Q := q
theorem w_sfld {K : PySem.W.Frag} {tv : TE} {f : Str} (q : tv σ H fun y H1 => ta σ H1 fun x H2 => SFld K f y x H2 (fun H3 => D.nx σ H3)) : sFld K ta tv f D σ H := q
theorem w_par {m n : Nat} {ta : TA} (q : ta σ H fun vs H1 => ∃ v w, vs = [v, w] ∧ D.nx ((σ.set m (some v)).set n (some w)) H1) : tPar m n ta D σ H := q
theorem w_andV {ta tb : TE} (q : ta σ H fun x H1 => ∃ c, x = .bl c ∧ if c = true then tb σ H1 Q else Q (.bl false) H1) : tAndV ta tb σ H Q := q
theorem w_orV {ta tb : TE} (q : ta σ H fun x H1 => ∃ c, x = .bl c ∧ if c = true then Q (.bl true) H1 else tb σ H1 Q) : tOrV ta tb σ H Q := q
theorem w_mid (M : L2.St → Hp → Prop) (a : t { D with nx := M } σ H) (b : ∀ σ' H', M σ' H' → u D σ' H') : tMid t u D σ H := ⟨M, a, b⟩
theorem w_in {K : PySem.W.Frag} {neg : Bool} {x : V} {p : Addr} {xs : List V} (h : SqL K H p xs ∨ SqT K H p xs) (f : flatV x = true) (fs : xs.all flatV = true) (q : Q (.bl (if neg then !inV x xs else inV x xs)) H) : rIn K neg x (.ref p) H Q := ⟨p, xs, rfl, h, f, fs, q⟩
theorem w_kd {K : PySem.W.Frag} {w : World} {p : Addr} {z : Str} (h : KDct K w p z v) (q : Q v H) : rIxD K w (.ref p) (.str z) H Q := ⟨p, z, v, rfl, rfl, h, q⟩
theorem w_meth {C : Addr} {m : Str} {sp : Sp} {dvs : List V} {E : XK} {tr : TA} (q : ta σ H fun x H1 => Mth C m x H1 (tr σ H1 fun vs H2 => sp (x :: (vs ++ dvs)) H2 Q E)) : tMeth C m sp dvs E ta tr σ H Q := q
theorem w_methK {C : Addr} {m : Str} {n : Nat} {sp : Sp} {gV : List V → List V → List V} {E : XK} {tr : TA} (q : ta σ H fun x H1 => Mth C m x H1 (tr σ H1 fun zs H2 => zs.length = n ∧ sp (gV [x] zs) H2 Q E)) : tMethK C m n sp gV E ta tr σ H Q := q
theorem w_for {wi : TI} {g : TG} {tb : TS} (q : wi σ H fun J H1 => Loop J g tb D σ H1) : tFor wi g tb D σ H := q
theorem w_itup {K : PySem.W.Frag} {tl : TE} {R : It → Hp → Prop} (q : tl σ H fun x H1 => OverT K x H1 R) : iTup K tl σ H R := q
theorem w_ilist {K : PySem.W.Frag} {tl : TE} {R : It → Hp → Prop} (q : tl σ H fun x H1 => OverL K x H1 R) : iList K tl σ H R := q
theorem w_irng {ta : TA} {R : It → Hp → Prop} (q : ta σ H fun vs H1 => OverR vs H1 R) : iRng1 ta σ H R := q
theorem w_disp {trs : List (TE × TE)} (q : ∀ (p : Addr) (H1 : Hp), H p = none → H1 p = some (.dK []) → Same H H1 → tPairs trs σ H1 fun ps H2 => DAll p ps Q H2) : tDisp trs σ H Q :=
  fun p np => q p _ np upd_same fun b u e => by rw [upd_ne (ne_of_none e np)]; exact e
theorem w_pnil {QP : List (V × V) → Hp → Prop} (q : QP [] H) : tPairs [] σ H QP := q
theorem w_pcons {tk tv : TE} {r : List (TE × TE)} {QP : List (V × V) → Hp → Prop} (q : tk σ H fun x H1 => tv σ H1 fun y H2 => tPairs r σ H2 fun ps H3 => QP ((x, y) :: ps) H3) : tPairs ((tk, tv) :: r) σ H QP := q
theorem w_dput {td ty tv : TE} (q : tv σ H fun v H1 => td σ H1 fun x H2 => ty σ H2 fun y H3 => DPutQ v x y H3 (fun H4 => D.nx σ H4)) : sDPut td ty tv D σ H := q
theorem w_dget {td ty : TE} (q : td σ H fun x H1 => ty σ H1 fun y H2 => DGetQ x y H2 Q) : tDGet td ty σ H Q := q
theorem w_make {C : Addr} {sp : Sp} {dvs : List V} {E : XK} {tr : TA} (q : tr σ H fun vs H1 => Make C sp (fun x => x :: (vs ++ dvs)) E H1 Q) : tMake C sp dvs E tr σ H Q := q
theorem w_makeK {C : Addr} {n : Nat} {sp : Sp} {gV : List V → List V → List V} {E : XK} {tr : TA} (q : tr σ H fun zs H2 => zs.length = n ∧ Make C sp (fun x => gV [x] zs) E H2 Q) : tMakeKG C n sp gV E tr σ H Q := q
theorem w_drop (q : te σ H fun _ H1 => D.nx σ H1) : tDrop te D σ H := q
end
end KG

set_option Elab.async false
set_option linter.all false
set_option maxRecDepth 100000
set_option maxHeartbeats 4000000
/-! KX: an error that a suite keeps under another name, and what is asked of it later. -/
namespace KG
open PySem PySem.Spec PyProof.Rows L2

/-- a caught error of the class cls at a, its dict d -/
def ErrO (cls : Value) (d : Option Addr) (a : Addr) : HO := .ext fun h => ∃ (oe : Obj) (vs : Array Value), h.get? a = some oe ∧ Zc cls d oe ∧ oe.data = .fields vs
theorem errO_ok {P : Program} {w : World} {H : Hp} {h : Heap} {cls : Value} {d : Option Addr} {a : Addr} {oe : Obj} {vs : Array Value} (e : h.get? a = some oe) (z : Zc cls d oe) (dd : oe.data = .fields vs) : ObjOk P w H h a (ErrO cls d a) :=
  ⟨⟨oe, vs, e, z, dd⟩, ⟨oe, e⟩, fun _ _ ⟨o, v, q, r⟩ k => ⟨o, v, k o q, r⟩⟩
theorem errO_at {P : Program} {w : World} {H : Hp} {h : Heap} {cls : Value} {d : Option Addr} {a : Addr} (hok : HOk P w H h) (e : H a = some (ErrO cls d a)) : ∃ (oe : Obj) (vs : Array Value), h.get? a = some oe ∧ Zc cls d oe ∧ oe.data = .fields vs := by
  have x : ObjOk P w H h a (.ext fun h => ∃ (oe : Obj) (vs : Array Value), h.get? a = some oe ∧ Zc cls d oe ∧ oe.data = .fields vs) := hok a _ e
  exact x.1

section
variable {X : Cx} {pins : List (Addr × Obj)} {σ : L2.St} {H : Hp} {s : Shared}
/-- an object that was not there at the entry is known from now on -/
theorem inv_know {a : Addr} {oe : Obj} {vs : Array Value} {o : HO} (I : Inv X pins σ H s) (ha : s.heap.get? a = some oe) (hd : oe.data = .fields vs) (new : ObjOk X.prog X.w (upd H a o) s.heap a o) (na : H a = none) (nL : a ≠ X.env.locals)
    (n0 : X.s_0.heap.get? a = none) (np : ∀ p ∈ X.pn ++ pins, p.1 ≠ a) : Inv X pins σ (upd H a o) s := by
  have nT : ∀ {b u}, H b = some u → b ≠ a := fun e => ne_of_none e na
  have nC : ∀ x c, X.env.cells.lookup x = some c → c ≠ a := fun x c e z => by
    obtain ⟨v, oc, e1, e2⟩ := I.cell x c e
    rw [z, ha] at e1
    cases e1
    rw [hd] at e2
    cases e2
  refine ⟨I.ok, I.os, I.bare, ⟨I.base.keep, I.base.slot, fun b u e n hx => ?_, I.base.there, fun b xs e => ?_, fun b u v e => ?_, fun b ps e => ?_⟩, I.loc, I.cell, ?_, fun x c e => ?_, fun p hp => ?_, fun b u e => ?_, I.len⟩
  · rw [upd_ne (fun z => by rw [z, n0] at e; cases e)]
    exact I.base.free b u e n hx
  · have q := I.base.tups b xs e
    rw [upd_ne (nT q)]; exact q
  · have q := I.base.frzs b u v e
    rw [upd_ne (nT q)]; exact q
  · obtain ⟨m, q⟩ := I.base.tbls b ps e
    exact ⟨m, by rw [upd_ne (nT q)]; exact q⟩
  · rw [upd_ne (Ne.symm nL)]; exact I.free
  · rw [upd_ne (nC x c e)]; exact I.freeC x c e
  · obtain ⟨e, n, ne, nf, d⟩ := I.pin p hp
    exact ⟨e, by rw [upd_ne (np p hp)]; exact n, ne, nf, d⟩
  · by_cases hb : b = a
    · subst hb
      rw [upd_same] at e
      cases e
      exact new
    · rw [upd_ne hb] at e
      exact (I.hok b u e).stay (fun c v _ q => q) (fun c q => by rw [upd_ne (nT q)]; exact q) fun c xs q => by rw [upd_ne (nT q)]; exact q
end

/-- what the clause wishes, the error known behind its suite; slot i is the name's -/
def wKeep (K : PySem.W.Frag) (c : Value) (i : Nat) (ts : Addr → Value → Option Addr → TS) (Wout : WX) (D : Ends) : WX := fun cls d σ H => ∃ b, PySem.W.exmOne K cls c = some b ∧
  (b = true → ∀ a, H a = none → ts a cls d
    { nx := fun τ G => D.nx (τ.set i none) (upd G a (ErrO cls d a)), rt := fun v G => D.rt v (upd G a (ErrO cls d a)), bk := fun τ G => D.bk (τ.set i none) (upd G a (ErrO cls d a)), ct := fun τ G => D.ct (τ.set i none) (upd G a (ErrO cls d a)) } (σ.set i (some (.ref a))) H) ∧
  (b = false → Wout cls d σ H)

/-- an object of fields is no frame -/
theorem off_frames {B h : Heap} {l : List Env} {a : Addr} {o : Obj} {vs : Array Value} (ff : h.FunFrames B l) (e : h.get? a = some o) (d : o.data = .fields vs) : a ∉ frs l := by
  intro inside
  have ⟨_, p, ep, plain⟩ := ff.mem inside
  have same : o = p := Option.some.inj (e.symm.trans ep)
  exact plain vs (same ▸ d)
/-- where a caught error lies: beside the frames, the pins and all that was there at the entry -/
structure Beside (X : Cx) (pins : List (Addr × Obj)) (a : Addr) : Prop where
  own : a ≠ X.env.locals
  outer : a ∉ X.fs
  entry : X.s_0.heap.get? a = none
  pinned : ∀ p ∈ X.pn ++ pins, p.1 ≠ a
section
variable {X : Cx} {x n : Str} {c : Value} {i : Nat} {body suite : List Stmt} {b₀ : Stmt} {np pos pos' : Pos} {tb : WX → TS} {ts : Addr → Value → Option Addr → TS} {Wout : WX} {pins : List (Addr × Obj)} {σ : L2.St} {H : Hp} {s : Shared} {D : Ends}
theorem beside_of {B : Heap} {a : Addr} (stk : X.stack = X.env :: X.outer) (fr : X.env.frame = some X.env.locals) (noex : X.ex = []) (I : Inv X pins σ H s) (ground : ∀ b o, s.heap.get? b = some o → b ∉ frs X.stack → B.get? b = some o)
    (fresh : B.get? a = none) (off : a ∉ frs (X.env :: X.outer)) : Beside X pins a := by
  have gap : s.heap.get? a = none := by
    rcases e : s.heap.get? a with _ | o
    · rfl
    · have below := ground a o e (by rw [stk]; exact off)
      exact absurd (fresh.symm.trans below) (by simp)
  constructor
  · intro z
    refine off (List.mem_filterMap.mpr ⟨X.env, .head _, ?_⟩)
    rw [z, fr]
  · intro inside
    have ⟨env, henv, at_⟩ := List.mem_filterMap.mp inside
    exact off (List.mem_filterMap.mpr ⟨env, .tail _ henv, at_⟩)
  · rcases e : X.s_0.heap.get? a with _ | o
    · rfl
    · have ⟨_, still⟩ := I.base.there a o e (by rw [noex]; simp)
      exact absurd (gap.symm.trans still) (by simp)
  · intro p hp z
    have kept := (I.pin p hp).1
    rw [z] at kept
    exact absurd (gap.symm.trans kept) (by simp)
/-- the way out of the suite: the name goes, the error is known -/
theorem way_out {a : Addr} {oe : Obj} {vs : Array Value} {cls : Value} {d : Option Addr} {R : Shared → Prop} (ok : X.Ok) (nd : X.N.Nodup) (place : X.N[i]? = some n) (loc : X.env.kindOf n = some .local) (by_ : Beside X pins a) (z : Zc cls d oe) (dd : oe.data = .fields vs)
    (S : Inv (X.suite a ((a, oe) :: (X.pn ++ pins))) [] σ H s) (next : ∀ s', Inv X pins (σ.set i none) (upd H a (ErrO cls d a)) s' → R s') :
    wpAny (model X.prog X.w) X.A (do bindName X.env n .none; unbindBehindTheSuite X.env n pos') (fun _ s' => R s') X.xe s := by
  refine gone_ok (X := X.suite a ((a, oe) :: (X.pn ++ pins))) (pins := []) S nd place loc fun s' S' => next s' ?_
  have ⟨there, free, _⟩ := S'.pin (a, oe) (List.mem_append_left _ (.head _))
  exact inv_know (S'.unsuite ok) there dd (errO_ok there z dd) free by_.own by_.entry by_.pinned
/-- the clause's class by its name, within the suite's marks -/
theorem class_of_clause {a : Addr} {oe : Obj} {Q E : Value → Shared → Prop} (hc : Names X x c) (S : Inv (X.suite a ((a, oe) :: (X.pn ++ pins))) [] σ H s) (q : Q c s) : wpAny (model X.prog X.w) (X.A.mark (some (.ref a))) (eval (.Name x np) X.env) Q E s := by
  have ⟨glob, plain, from_⟩ := hc
  rcases from_ with own | ⟨no, boot, nn⟩
  · exact ld_glob (X := X.suite a ((a, oe) :: (X.pn ++ pins))) S glob own q plain
  · exact ld_blt (X := X.suite a ((a, oe) :: (X.pn ++ pins))) S glob no boot q nn plain
/-- an error that comes out of the body meets the clause -/
theorem clause_meets {xe₀ : Value → Shared → Prop} {u : Value} {s' : Shared} (stk : X.stack = X.env :: X.outer) (fr : X.env.frame = some X.env.locals) (noex : X.ex = []) (nd : X.N.Nodup) (place : X.N[i]? = some n) (loc : X.env.kindOf n = some .local) (hc : Names X x c) (tk : Takes X Wout)
    (inner : ∀ (a : Addr) (oe : Obj) (cls : Value) (d : Option Addr) (pn : List (Addr × Obj)), Zc cls d oe → (∃ vs, oe.data = .fields vs) → PSs (X.suite a ((a, oe) :: pn)) (b₀ :: suite) (ts a cls d)) (ok : X.Ok) (xx : XE (X.tr (X.pn ++ pins) xe₀) (wKeep X.K c i ts Wout D) u s') :
    wpAny (model X.prog X.w) X.A (noteFrame u X.env) (fun _ s₂ => wpAny (model X.prog X.w) X.A (setFlight u none) (fun _ s₃ => wpAny (model X.prog X.w) X.A (handleBy u X.env [.ExceptHandler (some (.Name x np)) (some n) (b₀ :: suite) pos']) (SP X pins D) X.xe s₃) X.xe s₂) X.xe s' := by
  have ⟨a, B, sI, _, τ, G, cls, d, eu, J', ground, grown, sky, free, os, bare, b, which, yes, no⟩ := xx
  subst eu
  have J : Inv X pins τ G sI := J'.ofTry ok
  have all_frames : X.A.frames = some (X.env :: X.outer) := stk ▸ ok.frames
  refine Sky.land (Zc.steady (cls := cls) (d := d)) all_frames fr (stk ▸ sky) fun h1 fl1 g1 => ?_
  have I1 : Inv X pins τ G { s' with heap := h1 } := J.landed ground fl1.1 (grown.trans g1) os bare
  have ⟨o1, v1, at1, z1, d1⟩ := fl1.there
  have by_ : Beside X pins a := beside_of stk fr noex J ground fl1.2.1 (off_frames fl1.2.2.1 at1 d1)
  have T1 := I1.suite at1 d1 free by_.own by_.outer
  have kind : PySem.W.Looks (model X.prog X.w) h1 (typeOf (.ref a)) cls := fun _ _ _ _ keeps q => wpAny_typeOf_ref (keeps _ _ at1) (z1.1.symm ▸ q)
  refine wpAny_handleBy_cons (codeAny_handlers_test (class_of_clause hc T1 ((PySem.W.exm_one (M := model X.prog X.w) I1.kIn kind which).here ?_))) (fun z => nomatch z)
  rcases b with _ | _
  · -- another clause's, or nobody's: it goes on
    refine wpAny_handleBy_nil ?_
    have goes : wpAny (model X.prog X.w) X.A (setFlight (.ref a) X.env.frame) (fun _ s₄ => wpAny (model X.prog X.w) X.A (throw (.ref a) : Sem Flow) (SP X pins D) X.xe s₄) X.xe { s' with heap := h1 } := by
      rw [fr]
      exact HandSPX.setFlight_upZ fl1 fun h2 held g2 => wpAny_throw (tk _ _ ⟨a, B, sI, pins, τ, G, cls, d, rfl, J, ground, (grown.trans g1).trans g2, .inr (.inr (by rw [stk]; exact held)), free, os, bare, no rfl⟩)
    have ⟨_, _, _, _, _, T, _, _, atE, _, dE, first, _⟩ := fl1
    unfold PySem.passOn
    refine wpAny_bind (wpAny_field atE dE first ?_)
    have some_ : ¬ ((Value.ref T == Value.none) = true) := by simp
    rw [if_neg some_]
    first
      | exact wpAny_bind (wpAny_pure (wpAny_bind goes))
      | exact wpAny_bind goes
  · -- this clause's: the suite
    refine codeAny_handlers_suite_as (HandSPX.lands_againZ fl1 fun h2 fl2 g2 => ?_)
    have ⟨o2, v2, at2, z2, d2⟩ := fl2.there
    have T2 := (J.landed ground fl2.1 ((grown.trans g1).trans g2) os bare : Inv X pins τ G { s' with heap := h2 }).suite at2 d2 free by_.own by_.outer
    refine store_ok (X := X.suite a ((a, o2) :: (X.pn ++ pins))) (v := .ref a) T2 nd place (.inl loc) rfl (fun s3 T3 => ?_) (.inr loc)
    refine wpAny_mono ((inner a o2 cls d (X.pn ++ pins) z2 ⟨_, d2⟩).run [] s3 _ G _ T3 (yes rfl a free)) (fun flow s4 ends => ?_) (fun _ _ z => False.elim z)
    match flow, ends with
    | .next, ⟨_, _, T4, q⟩ => exact way_out ok nd place loc by_ z2 d2 T4 fun _ I5 => ⟨_, _, I5, q⟩
    | .brk, ⟨_, _, T4, q⟩ => exact way_out ok nd place loc by_ z2 d2 T4 fun _ I5 => ⟨_, _, I5, q⟩
    | .cont, ⟨_, _, T4, q⟩ => exact way_out ok nd place loc by_ z2 d2 T4 fun _ I5 => ⟨_, _, I5, q⟩
    | .ret _, ⟨_, _, _, T4, r, q⟩ => exact way_out ok nd place loc by_ z2 d2 T4 fun _ I5 => ⟨_, _, _, I5, r, q⟩
/-- try: body / except x as n: suite; the error is known behind the suite -/
theorem ps_try_keep (hs : X.stack = X.env :: X.outer) (hf : X.env.frame = some X.env.locals) (hex : X.ex = []) (hN : X.N.Nodup) (hi : X.N[i]? = some n) (hln : X.env.kindOf n = some .local) (hc : Names X x c) (tk : Takes X Wout)
    (hb : ∀ (W : WX) (pn : List (Addr × Obj)) (xe : Value → Shared → Prop), Takes (X.tr pn xe) W → PassesOwn (model X.prog X.w) X.A X.env xe → PSs (X.tr pn xe) body (tb W))
    (hsu : ∀ (a : Addr) (oe : Obj) (cls : Value) (d : Option Addr) (pn : List (Addr × Obj)), Zc cls d oe → (∃ vs, oe.data = .fields vs) → PSs (X.suite a ((a, oe) :: pn)) (b₀ :: suite) (ts a cls d)) :
    PS X (.Try body [.ExceptHandler (some (.Name x np)) (some n) (b₀ :: suite) pos'] [] [] pos) (fun D σ H => tb (wKeep X.K c i ts Wout D) D σ H) := by
  constructor
  intro pins s σ H D I start_
  refine wpAny_Try_except ?_
  refine wpAny_mono ((hb _ (X.pn ++ pins) (fun u s₁ => wpAny (model X.prog X.w) X.A (noteFrame u X.env) (fun _ s₂ => wpAny (model X.prog X.w) X.A (setFlight u none) (fun _ s₃ => wpAny (model X.prog X.w) X.A (handleBy u X.env [.ExceptHandler (some (.Name x np)) (some n) (b₀ :: suite) pos']) (SP X pins D) X.xe s₃) X.xe s₂) X.xe s₁)
    (fun _ _ xx => clause_meets hs hf hex hN hi hln hc tk hsu I.ok xx) PassesOwn.looking).run [] s σ H D (I.toTry _) start_) (fun flow s1 ends => ?_) (fun _ _ z => z)
  match flow, ends with
  | .next, ⟨_, _, T, q⟩ => exact wpAny_execs_nil ⟨_, _, T.ofTry I.ok, q⟩
  | .brk, ⟨_, _, T, q⟩ => exact ⟨_, _, T.ofTry I.ok, q⟩
  | .cont, ⟨_, _, T, q⟩ => exact ⟨_, _, T.ofTry I.ok, q⟩
  | .ret _, ⟨_, _, _, T, r, q⟩ => exact ⟨_, _, _, T.ofTry I.ok, r, q⟩
end

/-! ### what is asked of a known error -/
/-- isinstance(e, c): D the error's class -/
def rIsErr (K : PySem.W.Frag) : List V → Hp → VK → Prop := fun xs H Q => ∃ (a D : Addr) (dd : Addr) (fs : List (Str × V)) (c : V) (cv : Value) (b : Bool), xs = [.ref a, c] ∧ H a = some (ErrO (.ref D) (some dd) a) ∧ H dd = some (.xd fs) ∧ ExcC K D ∧
  (∀ u, RelV c u → u = cv) ∧ PySem.W.kitOne K (.ref D) cv = some b ∧ Q (.bl b) H
theorem excC_cls {K : PySem.W.Frag} {D : Addr} (C : ExcC K D) : (PySem.W.clsIn K D).isSome = true := by
  obtain ⟨cd, hc, _⟩ := PySem.W.any_some C.hd
  rw [hc] <;> rfl
theorem call_isErr {X : Cx} : CallR X (.builtin "isinstance") (rIsErr X.K) := by
  intro pins s σ H xs us Q I r h
  obtain ⟨a, D, dd, fs, c, cv, b, rfl, ha, hdd, C, hcv, e, q⟩ := h
  cases r with
  | cons rx rr =>
    cases rr with
    | cons rt rr =>
      cases rr
      cases rx
      have ec := hcv _ rt
      subst ec
      obtain ⟨oe, vs, hget, hz, hv⟩ := errO_at I.hok ha
      obtain ⟨mA, ⟨od, _, _, ho, _⟩, _⟩ := I.hok dd _ hdd
      have J : PySem.W.InstAt s.heap a oe D (some od) := by
        obtain ⟨oc, oda, odt, osl⟩ := oe
        obtain ⟨h1, h2⟩ := hz
        dsimp only at h1 h2 hv
        subst h1 h2 hv
        exact ⟨hget, rfl, rfl, ho⟩
      exact PySem.W.kia_one (PySem.W.kitx_exc (excC_cls C) C.hg C.hk C.hs C.ha C.hn C.ht C.hm) I.kIn J e (fun z => nomatch z) fun tk => ⟨.bl b, H, I.kept (t' := tk) fun _ _ z => z, rfl, q⟩
/-- e.f of a known error -/
def tErrF (K : PySem.W.Frag) (te : TE) (f : Str) : TE := fun σ H Q => te σ H fun x H1 => ∃ (a C dd : Addr) (fs : List (Str × V)) (v : V), x = .ref a ∧ H1 a = some (ErrO (.ref C) (some dd) a) ∧ H1 dd = some (.xd fs) ∧ XfC K C ∧ PySem.W.findIn K (.ref C) f = some none ∧ fs.lookup f = some v ∧ Q v H1
theorem pe_errf {X : Cx} {e : Expr} {te : TE} {pos : Pos} {n : Str} (he : PE X e te) (hb : attributeBase e n X.env (eval e X.env) = eval e X.env := by rfl) : PE X (.Attribute e n pos) (tErrF X.K te n) := by
  refine ⟨fun pins s σ H Q I h => ?_⟩
  refine attr_of hb (thn (he.run pins s σ H _ I h) fun u s1 hh => ?_)
  obtain ⟨x, H1, I1, rx, a, C, dd, fs, v, ex, ha, hdd, T, hno, l, q⟩ := hh
  subst ex
  obtain rfl : u = Value.ref a := rx
  obtain ⟨oe, vs, hget, hz, hv⟩ := errO_at I1.hok ha
  obtain ⟨mA, hns, hr⟩ := I1.hok dd _ hdd
  obtain ⟨od, ho, hl⟩ := lookIn_ns hns
  obtain ⟨u, hu, ru⟩ := RelO.some_of (v := v) (o := mA n) (by rw [← l]; exact hr n)
  have J : PySem.W.InstAt s1.heap a oe C (some od) := ⟨hget, hz.1, by unfold PySem.W.notCls; rw [hv] <;> rfl, by rw [hz.2]; exact ho⟩
  exact HandSPX.exc_get I1.kIn J T.ga T.gg T.exC (PySem.W.findObj_own T.hdC hno rfl (by rw [hl, hu])) (handed_of ru) ⟨v, H1, I1.tok _, ru, q⟩
end KG

set_option Elab.async false
set_option linter.all false
set_option maxRecDepth 100000
set_option maxHeartbeats 4000000
/-! KE1: an own error, its __init__ of two lines: super().__init__('..'), self.f = value. -/
namespace KG
open PySem PySem.Spec PySem.Calls PyProof.Rows L2
open PySem.W (ksFn ksEnv)

/-- what the written part says of such a class at C, its __init__ at fI; pv: the value's name, fld: the field -/
structure ErrC (prog : Program) (K : PySem.W.Frag) (C fI : Addr) (qual pv fld : Str) (params : Arguments) (body : List Stmt) (scope : Scope) : Prop where
  cls : OexC K C
  ini : PySem.W.findIn K (.ref C) "__init__" = some (some (.ref fI))
  fn : PySem.W.typeIn K (.ref fI) = some (.type "function")
  fun_ : ∃ (oc kV doc pm ct : Value) (an od : Option Addr) (cda cc : Addr) (osl : Array (Option Value)) (ccl cl : Value) (cdd cld : Option Addr) (vs : Array Value) (ccs csl : Array (Option Value)) (file : Str) (tf : Tok),
    K.lookup fI = some ⟨oc, od, .func (ksFn "__init__" qual params body scope .none kV doc pm an (.ref cda) ct cc), osl⟩ ∧ PySem.W.codeIn K (.ref cda) qual = true ∧
    K.lookup cda = some ⟨ccl, cdd, .fields vs, ccs⟩ ∧ vs[2]? = some (.str file tf) ∧ ((prog.main.file : Str) == file) = true ∧ K.lookup cc = some ⟨cl, cld, .cell (some (.ref C)), csl⟩
  self_ : PySem.W.mroIn K C (.ref C) = some true
  up : PySem.W.ks_superIn K C C "__init__" = some (some (.builtin "ValueError.__init__"))
  sub : PySem.W.subIn K (.ref C) (.type "ValueError") = some true
  opq : PySem.W.nsIn K cStatics "thirdparty.any" = some none
  nosup : PySem.W.nsIn K mainGlobals "super" = some none
  top : (prog.main.scope.names.lookup ("super" : Str)).isSome = false
  nofld : PySem.W.findIn K (.ref C) fld = some none

/-- the two lines -/
def errBody (msg pv fld : Str) (j : Nat) (p0 p1 p2 p3 p4 p5 p6 p7 p8 p9 : Pos) : List Stmt :=
  [.Expr (.Call (.Attribute (.Call (.Name "super" p0) [] [] p1) "__init__" p2) [.Constant (.str msg) j p3] [] p4) p5,
   .Assign [.Attribute (.Name "self" p6) fld p7] (.Name pv p8) p9]

/-- what the text of the two lines says -/
structure ErrT (qual pv fld msg : Str) (params : Arguments) (scope : Scope) (j : Nat) (p0 p1 p2 p3 p4 p5 p6 p7 p8 p9 : Pos) : Prop where
  bind : ∀ (kV doc pm : Value) (an : Option Addr) (cdv ct : Value) (cc : Addr) (x y : Value), bindArgs (ksFn "__init__" qual params (errBody msg pv fld j p0 p1 p2 p3 p4 p5 p6 p7 p8 p9) scope .none kV doc pm an cdv ct cc) ⟨[x, y], []⟩ = pure [(("self" : Str), x), (pv, y)]
  ev : ∃ pl : Env → Sem Bool, ∀ env : Env, eval (.Call (.Attribute (.Call (.Name "super" p0) [] [] p1) "__init__" p2) [.Constant (.str msg) j p3] [] p4) env = (do
      let ov ← attributeBase (.Call (.Name "super" p0) [] [] p1) "__init__" env (eval (.Call (.Name "super" p0) [] [] p1) env)
      standAt p2.atName
      let (f, first) ← holding [ov] (getMethod ov "__init__" (pl env))
      callWith p4 f first (backTo p4 (starEach [.Constant (.str msg) j p3] env)) [])
  par : (params.posonlyargs ++ params.args).head?.map (·.arg) = some "self"
  k1 : scope.names.lookup ("self" : Str) = some .local
  k2 : scope.names.lookup pv = some .local
  k3 : scope.names.lookup ("super" : Str) = some .globalImplicit
  k4 : scope.names.lookup ("__class__" : Str) = some .free
  npv : pv ≠ "self"
  npd : (pv == ("__debug__" : Str)) = false
  cell : ∀ x ∈ scope.names, x.2 ≠ .cell
  co : scope.isCoroutine = false
  gen : scope.isGenerator = false
  kind : scope.kind = .function

section
variable {prog : Program} {w : World} {A : Around} {R : Result → Shared → Prop} {K : PySem.W.Frag} {mg mb : Str → Option Value} {C fI : Addr} {qual pv fld msg : Str} {params : Arguments} {scope : Scope} {j : Nat} {p0 p1 p2 p3 p4 p5 p6 p7 p8 p9 : Pos}
theorem err_init {s : Shared} {e t0 : Addr} {u : Value} (T : ErrC prog K C fI qual pv fld params (errBody msg pv fld j p0 p1 p2 p3 p4 p5 p6 p7 p8 p9) scope)
    (kin : K.In s.heap) (nsm : s.heap.Ns mainGlobals mg) (nsb : s.heap.Ns builtinsNs mb) (mbb : ∀ x : Str, x ≠ "__name__" → mb x = bootBuiltins x) (lim : s.heap.NoLimit) (dep : A.depth < recursionLimit)
    (he : s.heap.get? e = some (PySem.HandSPX.excO C t0)) (nK : K.lookup e = none)
    (bind : ∀ (kV doc pm : Value) (an : Option Addr) (cdv ct : Value) (cc : Addr) (x y : Value), bindArgs (ksFn "__init__" qual params (errBody msg pv fld j p0 p1 p2 p3 p4 p5 p6 p7 p8 p9) scope .none kV doc pm an cdv ct cc) ⟨[x, y], []⟩ = pure [(("self" : Str), x), (pv, y)])
    (pl : Env → Sem Bool) (hev : ∀ env : Env, eval (.Call (.Attribute (.Call (.Name "super" p0) [] [] p1) "__init__" p2) [.Constant (.str msg) j p3] [] p4) env = (do
      let ov ← attributeBase (.Call (.Name "super" p0) [] [] p1) "__init__" env (eval (.Call (.Name "super" p0) [] [] p1) env)
      standAt p2.atName
      let (f, first) ← holding [ov] (getMethod ov "__init__" (pl env))
      callWith p4 f first (backTo p4 (starEach [.Constant (.str msg) j p3] env)) []))
    (hpar : (params.posonlyargs ++ params.args).head?.map (·.arg) = some "self")
    (k1 : scope.names.lookup ("self" : Str) = some .local) (k2 : scope.names.lookup pv = some .local) (k3 : scope.names.lookup ("super" : Str) = some .globalImplicit) (k4 : scope.names.lookup ("__class__" : Str) = some .free)
    (npv : pv ≠ "self") (hpd : (pv == ("__debug__" : Str)) = false) (hcell : ∀ x ∈ scope.names, x.2 ≠ .cell) (hco : scope.isCoroutine = false) (hgen : scope.isGenerator = false) (hk : scope.kind = .function)
    (hq : ∀ h' t' dx, (∀ b o, b ≠ e → s.heap.get? b = some o → h'.get? b = some o) → s.heap.objs.size ≤ dx → dx ≠ e →
      (∃ t1 : Addr, h'.get? e = some ({ cls := .ref C, dict := some dx, data := .fields #[.ref t1, .none, .none, .none, .bool false, .none] } : Obj)) → h'.Ns1 dx (fun y => if y = fld then some u else none) →
      R (.ok (.ret .none)) { s with heap := h', toks := t' }) :
    codeAny (model prog w) A (.call (.ref fI) ⟨[.ref e, u], []⟩) R s := by
  obtain ⟨oc, kV, doc, pm, ct, an, od, cda, cc, osl, ccl, cl, cdd, cld, vs, ccs, csl, file, tf, lkF, code, lkC, hvs, hfile, lkCell⟩ := T.fun_
  obtain ⟨nm, q, N, bs, bm, sn, sub, ab, col, dd, c0, c1, c2, c3, c5, hC, hbm⟩ := T.cls.cls
  have hcl : PySem.W.clsIn K C = some { name := nm, bases := bs, mro := .ref C :: bm, ns := N, qualname := q, hasDict := true, slotNames := sn, subclasses := sub, abstract := ab, collection := col, hasDel := false } := by
    unfold PySem.W.clsIn
    rw [hC] <;> rfl
  obtain ⟨ar, har, hself⟩ : ∃ ar, (params.posonlyargs ++ params.args).head? = some ar ∧ ar.arg = "self" := by
    cases z : (params.posonlyargs ++ params.args).head? with
    | none => rw [z] at hpar; cases hpar
    | some ar => rw [z] at hpar; exact ⟨ar, rfl, Option.some.inj hpar⟩
  have eC : e ≠ C := fun z => by
    have z1 := kin _ _ hC
    rw [z, z1] at he
    cases he
  refine ks_codeAny_call_defAt (fd := ksFn "__init__" qual params (errBody msg pv fld j p0 p1 p2 p3 p4 p5 p6 p7 p8 p9) scope .none kV doc pm an (.ref cda) ct cc) (body := errBody msg pv fld j p0 p1 p2 p3 p4 p5 p6 p7 p8 p9) (binds := [(("self" : Str), .ref e), (pv, u)])
    dep (kin _ _ lkF) rfl lim (PySem.W.codeRec_of kin code) rfl (.of_eq (bind ..)) hcell (fun y hy => ?_) (fun h1 ns1 kp1 => ?_) hco hgen hk
  · rcases List.mem_cons.mp hy with z | z
    · rw [z]; exact k1
    · rcases List.mem_cons.mp z with z | z
      · rw [z]; exact k2
      · cases z
  have kin1 : K.In h1 := kin.keeps kp1
  obtain ⟨hp, g, d, t, os⟩ := s
  have hint : interactive (callEnv (ksFn "__init__" qual params (errBody msg pv fld j p0 p1 p2 p3 p4 p5 p6 p7 p8 p9) scope .none kV doc pm an (.ref cda) ct cc) hp.objs.size fI) = false := by
    unfold interactive
    simp [callEnv, newEnv, hk]
  refine ks_wpAt_execs_cons (ks_wpAt_Expr_any (ks_wpAt_MethodCall (ks_wpAt_super_base k3 k4 (by decide) rfl (kin1 _ _ lkF) rfl har rfl (kin1 _ _ lkC) rfl hvs hfile T.top ?_) (hev _)) hint)
  refine PySem.W.ks_loadName_global hk k3 (loadGlobal_builtin (nsm.keeps kp1) (PySem.W.mg_none_of kin nsm T.nosup) (nsb.keeps kp1) ((mbb _ (by decide +kernel)).trans (by decide +kernel)) ⟨rfl, ?_⟩)
  refine wpAny_loadName_free hk k4 rfl ⟨_, kin1 _ _ lkCell, rfl⟩ ?_
  rw [hself]
  refine wpAny_loadName_local hk k1 ns1 (v := .ref e) ?_ ?_
  · show List.lookup ("self" : Str) ([(("self" : Str), Value.ref e), (pv, u)] : List (Str × Value)).reverse = _
    simp [List.lookup, beq_eq_false_iff_ne.mpr (Ne.symm npv)]
  have he1 : h1.get? e = some (PySem.HandSPX.excO C t0) := kp1 _ _ he
  have hD1 := kin1 _ _ hC
  refine ks_wpAny_isType_cls hD1 rfl ⟨rfl, ?_⟩
  refine ks_wpAny_call_super hD1 rfl he1 rfl (fun c z => by cases z) (PySem.W.looks_mroIn kin1 T.self_) (fun h2 eso kp2 => ?_)
  have kin2 : K.In h2 := kin1.keeps kp2
  have he2 := kp2 _ _ he1
  have inst2 : PySem.W.InstAt h2 e (PySem.HandSPX.excO C t0) C none := ⟨he2, rfl, rfl, trivial⟩
  have sup := T.up
  unfold PySem.W.ks_superIn at sup
  rw [hcl] at sup
  refine PySem.W.kxs_getMethod PySem.W.kxs_ValueError eso (PySem.W.looks_opaque kin2 T.opq) (l₀ := Value.ref C :: bm) (fun A Q E s k q => wpAny_bind ((PySem.W.looks_clsIn kin2 hcl) A _ E s k (wpAny_pure q))) rfl kin2 sup (inst2.type.andThen (PySem.W.looks_subIn kin2 T.sub)) eC (by decide) ?_
  have ku := Heap.get?_push_size h2 (o := PySem.W.kxs_mw "ValueError.__init__" e) rfl
  have kp3 : ∀ b o, h2.get? b = some o → (h2.push (PySem.W.kxs_mw "ValueError.__init__" e)).get? b = some o := fun b o z => Heap.get?_push_of_some _ z
  refine PySem.W.kxs_callWith (i := "ValueError.__init__") (x := e) rfl (evalArgs_plain (Calls.spliced_cons (Calls.Constant_str (k := j) (pos := p3) (Calls.spliced_nil ⟨ku, ?_⟩))))
  have he3 := kp3 _ _ he2
  have hC3 := kp3 _ _ (kp2 _ _ hD1)
  refine wpAny_call (codeAny_of_tree ?_)
  show wpAny _ (Around.in1 _) (callAny (.ref h2.objs.size) ⟨[.str msg _], []⟩) _ _ _
  simp only [callAny]
  refine wpAny_bind (wpAny_load ku ?_)
  simp only [PySem.W.kxs_mw, show (Value.type "method-wrapper" == Value.type "method" || Value.type "method-wrapper" == Value.type "builtin_function_or_method" || Value.type "method-wrapper" == Value.type "method-wrapper") = true by decide, if_true]
  refine PySem.W.KFB.if_so (by decide) ?_
  refine wpAny_bind (PySem.W.check_bound_init PySem.F.excBase_ValueError.toExcCallFacts hC3 he3 rfl ?_)
  refine wpAny_bind (wpAny_pure (wpAny_pure ?_))
  refine ⟨plainId_quiet PySem.F.excBase_ValueError.init.plain _, codeAny_builtin PySem.F.excBase_ValueError.initEntry ?_⟩
  refine PySem.W.exc_init_tree (cls := .ref C) (t0 := t0) (dv := none) (c2 := .none) (c3 := .none) (b4 := .bool false) he3 (by show 1 ≤ sizeLine; rw [sizeLine_eq]; omega) fun h4 kp4 he4 _ => ?_
  have neF : hp.objs.size ≠ e := Nat.ne_of_gt (Heap.lt_size he)
  have kin4 : K.In h4 := fun b o z => kp4 b o (fun y => by
    rw [y, nK] at z
    cases z) (kp3 _ _ (kin2 b o z))
  have ns4 : h4.Ns hp.objs.size (fun y => ([(("self" : Str), Value.ref e), (pv, u)] : List (Str × Value)).reverse.lookup y) := by
    obtain ⟨o, es, ep, ho, r⟩ := ns1
    exact ⟨o, es, ep, kp4 _ _ neF (kp3 _ _ (kp2 _ _ ho)), r⟩
  refine ks_wpAt_execs_cons (ks_wpAt_Assign_Attr ?_)
  refine wpAt_of_wpAny (wpAny_Name ?_ hpd)
  refine wpAny_loadName_local hk k2 ns4 (v := u) ?_ ?_
  · show List.lookup pv ([(("self" : Str), Value.ref e), (pv, u)] : List (Str × Value)).reverse = _
    simp [List.lookup]
  refine wpAny_Name ?_ (by decide)
  refine wpAny_loadName_local hk k1 ns4 (v := .ref e) ?_ ?_
  · show List.lookup ("self" : Str) ([(("self" : Str), Value.ref e), (pv, u)] : List (Str × Value)).reverse = _
    simp [List.lookup, beq_eq_false_iff_ne.mpr (Ne.symm npv)]
  refine PySem.W.set_plain kin4 (ox := _) (od := none) ⟨he4, rfl, rfl, trivial⟩ T.cls.sa ?_
  refine PySem.HandSPX.exc_osa kin4 he4 hcl (show PySem.HandSPX.refsVE (.ref C :: bm) = true from hbm) rfl T.nofld (fun h5 tk5 dx kp5 dn dne hx hn => ?_)
  show _root_.PySem.wpAt _ _ _ (execs [] _) _ _ _
  refine wpAt_of_wpAny (wpAny_execs_nil (hq h5 tk5 dx (fun b o ne z => kp5 b o ne (kp4 b o ne (kp3 _ _ (kp2 _ _ (kp1 _ _ z))))) ?_ dne ⟨_, hx⟩ hn))
  obtain ⟨oL, _, _, hoL, _⟩ := ns4
  exact Nat.le_trans (Nat.le_of_lt (Heap.lt_size hoL)) dn
end

section
variable {X : Cx} {k : Nat} {C fI : Addr} {x qual pv fld msg : Str} {params : Arguments} {scope : Scope} {j : Nat} {p0 p1 p2 p3 p4 p5 p6 p7 p8 p9 p pos : Pos} {e : Expr} {es : List Expr} {ta : TA}
/-- the making of an own error: its reading -/
def tErr (C : Addr) (fld : Str) (ta : TA) : L2.St → Hp → XK → Prop := fun σ H Q => ta σ H fun vs H1 => ∃ v, vs = [v] ∧ ∀ (dx : Addr) (H2 : Hp), H1 dx = none → H2 dx = some (.xd [(fld, v)]) → (∀ b, b ≠ dx → H2 b = H1 b) → Q (.ref C) (some dx) H2
theorem pmk_err (T : ErrC X.prog X.K C fI qual pv fld params (errBody msg pv fld j p0 p1 p2 p3 p4 p5 p6 p7 p8 p9) scope) (TT : ErrT qual pv fld msg params scope j p0 p1 p2 p3 p4 p5 p6 p7 p8 p9)
    (hr : Room (k + 1) X.A) (hg : Gl X x) (hm : X.mg x = some (.ref C)) (ha : PA X (e :: es) ta)
    (hdb : (x == ("__debug__" : Str)) = false := by decide) (hs : starEach (e :: es) X.env = (false, eval e X.env) :: starEach es X.env := by rfl) (hpl : (backTo pos (starEach es X.env)).any (·.1) = false := by rfl) :
    PMk X (.Call (.Name x p) (e :: es) [] pos) (tErr C fld ta) := by
  intro pins s σ H Q I h
  obtain ⟨nm, q, N, bs, bm, sn, sub, ab, col, dd, c0, c1, c2, c3, c5, hC, hbm⟩ := T.cls.cls
  refine wpAny_Call_Name_kw (ld_glob I hg hm ?_ hdb)
  refine PySem.W.callWith_K (h₀ := X.base) I.ok.mod.kin T.cls.kC (thn (ha.run pos pins s σ H _ I h) fun us s1 ⟨vs, H1, I1, r1, q1⟩ => ⟨I1.kIn, ?_⟩) hs hpl
  obtain ⟨v, ev, q1⟩ := q1
  subst ev
  obtain ⟨u, eu, ru⟩ := vals1 r1
  subst eu
  show wpAny _ _ (call (.ref C) [u]) _ _ _
  have mod := I1.mod
  obtain ⟨mb, nsb0, mbb⟩ := mod.blt
  have nsm := mod.glob.keeps I1.bk
  have nsb := nsb0.keeps I1.bk
  have lim := I1.nolimit
  have kin := I1.kIn
  have bare := I1.bare
  have fresh : ∀ {b : Addr}, s1.heap.objs.size ≤ b → H1 b = none := fun hb => I1.hok.fresh hb
  obtain ⟨hp, g, dr, tk, os⟩ := s1
  have kk : ∀ b o, hp.get? b = some o → ((hp.push (PySem.W.kdv_tup [u])).push (PySem.HandSPX.excO C hp.objs.size)).get? b = some o := fun b o z => Heap.get?_push_of_some _ (Heap.get?_push_of_some _ z)
  have hget : ((hp.push (PySem.W.kdv_tup [u])).push (PySem.HandSPX.excO C hp.objs.size)).get? (hp.objs.size + 1) = some (PySem.HandSPX.excO C hp.objs.size) := by heap_get
  have nK : X.K.lookup (hp.objs.size + 1) = none := by
    cases z : X.K.lookup (hp.objs.size + 1) with
    | none => rfl
    | some o => exact absurd (Heap.lt_size (kin _ _ z)) (Nat.not_lt.mpr (Nat.le_succ _))
  refine wpAny_call (PySem.HandSPX.call_own F.excBase_ValueError (fun Y => PySem.HandSPX.refsVE_contains Y bm hbm) (kin _ _ hC) (PySem.W.looks_findIn kin T.ini) (fun self => PySem.W.bind_fn kin self T.fn) (by show 1 ≤ sizeLine; rw [sizeLine_eq]; omega)
    (err_init (mg := X.mg) (mb := mb) (t0 := hp.objs.size) (e := hp.objs.size + 1) (u := u) T (kin.keeps kk) (nsm.keeps kk) (nsb.keeps kk) mbb (lim.keeps kk) (hr.make C [u] []).depth hget nK TT.bind TT.ev.choose TT.ev.choose_spec TT.par TT.k1 TT.k2 TT.k3 TT.k4 TT.npv TT.npd TT.cell TT.co TT.gen TT.kind
      fun h' t' dx kp dn dne hx hn => ⟨rfl, ?_⟩))
  obtain ⟨t1, hx⟩ := hx
  have dn' : hp.objs.size ≤ dx := Nat.le_trans (by simp only [Heap.size_push]; omega) dn
  have ne_old : ∀ {b : Addr} {o : Obj}, hp.get? b = some o → b ≠ hp.objs.size + 1 := fun z => Nat.ne_of_lt (Nat.lt_succ_of_lt (Heap.lt_size z))
  obtain ⟨G, g1, g2⟩ := restrict h' fun b => decide (b ≠ hp.objs.size + 1)
  have gk : ∀ b, b ≠ hp.objs.size + 1 → G.get? b = h'.get? b := fun b hb => g1 b (decide_eq_true hb)
  have ge : G.get? (hp.objs.size + 1) = none := g2 _ (by simp)
  have J : Inv X pins σ (upd H1 dx (.xd [(fld, v)])) ⟨G, g, dr, t', os⟩ := I1.laid (h' := G) (a := dx) (o := .xd [(fld, v)]) (t' := t') (fun b o z => (gk b (ne_old z)).trans (kp b o (ne_old z) (kk b o z))) dn'
    ⟨_, hn.at fun o y => (gk dx dne).trans y, relO_put (fs := []) ru fun g => True.intro⟩
  have nd : H1 dx = none := fresh dn'
  have na : upd H1 dx (.xd [(fld, v)]) (hp.objs.size + 1) = none := by
    rw [upd_ne (Ne.symm dne)]
    exact fresh (Nat.le_succ _)
  refine ⟨hp.objs.size + 1, _, _, ⟨G, g, dr, t', os⟩, _, .ref C, some dx, rfl, J, fun b o z => ?_, ge, hx, ⟨rfl, rfl⟩, rfl, rfl, na, rfl, bare, raises_own T.cls.exC T.cls.tyC, q1 dx _ nd upd_same fun b nb => upd_ne nb⟩
  by_cases hb : b = hp.objs.size + 1
  · rw [hb, ge] at z
    cases z
  · exact (gk b hb).symm.trans z
end
end KG

set_option Elab.async false
set_option linter.all false
set_option maxRecDepth 100000
set_option maxHeartbeats 1000000
/-! KH: a lambda without parameters handed to a def of the text, where nothing is shown; the end of a law whose defs lay code objects. -/
namespace KG
open PySem PySem.Spec PySem.Calls PyProof.Rows L2 LamX

/-- the lambda: its names, no parameters -/
structure LamT (sc scope : Scope) (params : Arguments) (body : Expr) : Prop where
  names : LamS sc scope
  bind : ∀ (q : Str) (cl : List (Str × Addr)) (pm cv ctv : Value), bindArgs (PySem.W.kla_fn "<lambda>" q params body scope cl pm cv ctv) ⟨[], []⟩ = pure []

/-- the frame of the def g that got it, entered from X at s -/
abbrev inDef (X : Cx) (N : List Str) (x : Str) (st : Stmt) (g : Addr) (cd : Value) (s : Shared) (H : Hp) : Cx := cxOf C8.CX0 X.prog X.w X.K X.mg X.base N x (defScope st) g cd X.A X.stack s H C8.E0
section
variable {X : Cx} {pins : List (Addr × Obj)} {σ : L2.St} {H HZ : Hp} {s : Shared} {k i : Nat} {N : List Str} {x a : Str} {st : Stmt} {g f c' : Addr} {cd pm ctv : Value} {params : Arguments} {body : Expr} {scope : Scope} {W : WX} {E : XK} {tb : TE} {p1 p2 : Pos}
/-- the lambda runs: from a frame over X's, at s1 -/
theorem lam_run {s1 : Shared} {env : Env} {A : Around} {Q : VK} (I : Inv X pins σ H s) (L : LamT X.env.scope scope params body) (e0 : Env0 X.prog X.w X.K X.mg X.base A (env :: X.stack) s1 HZ) (un : Un (frs X.stack) [] H HZ s.heap s1.heap) (lim : s1.heap.NoLimit)
    (rm : Room (k + 1) A) (gd : A.guards = some []) (fo : s1.heap.get? f = some (PySem.W.kla_obj "<lambda>" (X.env.qual ++ "<lambda>") params body scope (cloFrom X.env.cells scope.names []) pm c' ctv)) (co : ∃ (oc : Obj) (vs : Array Value) (t : Tok), s1.heap.get? c' = some oc ∧ oc.data = .fields vs ∧ vs[1]? = some (.str (X.env.qual ++ "<lambda>") t))
    (hbody : Room k (A.deeper (lamEnv X scope s1.heap.objs.size f c')) → (A.deeper (lamEnv X scope s1.heap.objs.size f c')).guards = some [] → PE (lamCx X A (env :: X.stack) s1 HZ E scope f c') body tb) (q : tb σ HZ Q) :
    codeAny (model X.prog X.w) A (.call (.ref f) ⟨[], []⟩) (CR (L2.CX X.prog X.w) (env :: X.stack) X.prog X.w HZ s1 Q E) s1 := by
  obtain ⟨oc, vs, t, g1, g2, g3⟩ := co
  refine PySem.W.kla_callFunE rm.depth fo rfl L.names.co L.names.gen rfl ⟨c', oc, vs, t, rfl, g1, g2, g3⟩ ?_
  rw [L.bind]
  refine wpAny_pure (wpAny_newFunctionEnv (fun y hy => (L.names.own y hy).2) (fun y hy => absurd hy List.not_mem_nil) (fun h2 ns2 sb2 => ⟨lim.fresh _ sb2, PySem.W.kla_codeExpr ?_⟩) L.names.kind)
  have kp : ∀ b o, s1.heap.get? b = some o → h2.get? b = some o := fun b o z => sb2.extBut b o (Nat.ne_of_lt (Heap.lt_size z)) (Heap.get?_push_of_some _ z)
  have J := lam_start2 (tk := s1.toks + ([] : List (Str × Value)).length) (E := E) (c' := c') (f := f) I L.names e0 rm.hd un ns2 kp
  exact wpAny_mono ((hbody (rm.deeper _) gd).run [] _ _ HZ Q J q) (fun v s' ⟨y, H', J', r, z⟩ => ⟨y, H', J'.os, J'.bare, J'.base, J'.hok, r, z⟩) fun _ _ z => z
/-- what stands at the name a is the lambda at f: a() -/
def Act (X : Cx) (N : List Str) (x : Str) (st : Stmt) (g : Addr) (cd : Value) (s : Shared) (H : Hp) (a : Str) (f c' : Addr) (tl : XK → Hp → VK → Prop) : Prop :=
  ∀ (W : WX) (pn : List (Addr × Obj)) (xe : Value → Shared → Prop) (p1 p2 : Pos), Takes ((inDef X N x st g cd s H).tr pn xe) W →
    PE ((inDef X N x st g cd s H).tr pn xe) (.Call (.Name a p1) [] [] p2) (fun σZ HZ Q => σZ[0]? = some (some (.ref f)) ∧ HZ c' = some (CodeO c' (X.env.qual ++ "<lambda>")) ∧ ∃ E : XK, (∀ cls d H', E cls d H' → W cls d σZ H') ∧ tl E HZ Q)
theorem act_of {t : XK → TE} (I : Inv X pins σ H s) (L : LamT X.env.scope scope params body) (fo : s.heap.get? f = some (PySem.W.kla_obj "<lambda>" (X.env.qual ++ "<lambda>") params body scope (cloFrom X.env.cells scope.names []) pm c' ctv)) (fn : H f = none) (ff : f ∉ frs X.stack)
    (rm : Room (k + 2) X.A) (gd : X.A.guards = some [])
    (hbody : ∀ (A : Around) (outer : List Env) (s : Shared) (H : Hp) (E : XK), Room k (A.deeper (lamEnv X scope s.heap.objs.size f c')) → (A.deeper (lamEnv X scope s.heap.objs.size f c')).guards = some [] → PE (lamCx X A outer s H E scope f c') body (t E))
    (hN : N[0]? = some a) (hv : Vis (defScope st) a) (hd : (a == ("__debug__" : Str)) = false) (hcd : (a == ("__classdict__" : Str)) = false) : Act X N x st g cd s H a f c' (fun E HZ Q => t E σ HZ Q) := by
  intro W pn xe p1 p2 tk
  refine ⟨fun pinsZ sZ σZ HZ Q IZ ⟨at0, hco, E, hW, hq⟩ => ?_⟩
  refine wpAny_Call_Name_kw (thn ((pe_var (pos := p1) (i := 0) hN hv hd hcd).run pinsZ sZ σZ HZ (fun v H1 => v = .ref f ∧ H1 = HZ) IZ ⟨.ref f, at0, rfl, rfl⟩) fun u s1 ⟨v, H1, I1, r1, ev, eH⟩ => ?_)
  subst ev
  subst eH
  obtain rfl : u = Value.ref f := r1
  have fo1 := I1.base.keep f _ fo fn ff (fun z => nomatch (show f ∈ ([] : List Addr) from z))
  have co1 := (I1.hok c' _ hco).1
  have rc : codeAny (model X.prog X.w) (X.A.deeper (envOfC x (defScope st) s.heap.objs.size g cd)) (.call (.ref f) ⟨[], []⟩) (CR (L2.CX X.prog X.w) (envOfC x (defScope st) s.heap.objs.size g cd :: X.stack) X.prog X.w H1 s1 Q E) s1 :=
    lam_run (X := X) (k := k) (Q := Q) (E := E) (tb := t E) (params := params) (body := body) (scope := scope) (pm := pm) (ctv := ctv) (c' := c') (f := f) I L I1.env0 I1.base I1.nolimit (rm.deeper _) gd fo1 co1 (fun r2 g2 => hbody _ _ _ _ _ r2 g2) hq
  refine PySem.W.callWith_F0 ⟨_, _, _, _, fo1⟩ (wpAny_call (codeAny_mono rc fun out s' ho => ?_))
  cases out with
  | error e => exact tk e s' (XE.of_call I1 (fun cls d H' h => hW cls d H' h) ho)
  | ok fl =>
    cases fl with
    | ret u => exact I1.after ho
    | next => exact False.elim ho
    | brk => exact False.elim ho
    | cont => exact False.elim ho
/-- the def that gets it: what it makes of the lambda's reading -/
def Gives (X : Cx) (x : Str) (st : Stmt) (a : Str) (TT : (XK → Hp → VK → Prop) → Hp → VK → Prop) : Prop :=
  ∃ N : List Str, FnScope N [a] (defScope st) ∧ N[0]? = some a ∧ Vis (defScope st) a ∧ ∀ (g : Addr) (cd : Value) (f c' : Addr) (s : Shared) (H : Hp) (Q : VK) (tl : XK → Hp → VK → Prop), Act X N x st g cd s H a f c' tl → H c' = some (CodeO c' (X.env.qual ++ "<lambda>")) → TT tl H Q →
    ∃ t, PSs (inDef X N x st g cd s H).nox (defBody st) t ∧ t { nx := fun _ H' => Q .non H', rt := Q } (L2.start N [.ref f]) H
/-- x(lambda: body) -/
theorem pe_lam {T : List (Addr × Str)} {TT : (XK → Hp → VK → Prop) → Hp → VK → Prop} {t : XK → TE} {c P : Addr} {p lpos pos : Pos} (D : DefAt X.K X.mg x st [a]) (G : Gives X x st a TT) (hg : Gl X x) (TB : TabB X.base X.mg c P) (hcode : X.env.code = .ref c)
    (hmT : (P, X.env.qual ++ "<lambda>") ∈ T) (hu : ∀ p ∈ T, p.1 = P → p.2 = X.env.qual ++ "<lambda>") (rm : Room (k + 2) X.A) (gd : X.A.guards = some []) (L : LamT X.env.scope scope params body) (hdef : defaultsOf params X.env = ([], []))
    (hbody : ∀ (A : Around) (outer : List Env) (s : Shared) (H : Hp) (E : XK) (f c' : Addr), Room k (A.deeper (lamEnv X scope s.heap.objs.size f c')) → (A.deeper (lamEnv X scope s.heap.objs.size f c')).guards = some [] → PE (lamCx X A outer s H E scope f c') body (t E))
    (hdb : (x == ("__debug__" : Str)) = false := by decide) (hd : (a == ("__debug__" : Str)) = false := by decide) (hcd : (a == ("__classdict__" : Str)) = false := by decide) : PE X (.Call (.Name x p) [.Lambda params body scope lpos] [] pos) (tLam T TT t) := by
  obtain ⟨g, fd, hm, F, b⟩ := D.ex
  obtain ⟨oc, od, kV, doc, pm, an, cdv, ct, osl, rfl, lk, hcg⟩ := F.ex
  obtain ⟨N, sc, hN, hv, G⟩ := G
  refine ⟨fun pins s σ H Q I ⟨hT, h⟩ => wpAny_Call_Name_kw (ld_glob I hg hm (PySem.W.callWith_K (h₀ := X.base) I.ok.mod.kin F.kp ?_ (by rfl) (by rfl)) hdb)⟩
  show wpAny _ _ (spliced ((false, eval (.Lambda params body scope lpos) X.env) :: backTo pos (starEach [] X.env))) _ _ s
  refine spliced_cons (lam_make2 I TB hcode hmT hu hT hdef (L.names.has I.ok) fun f c' pm' ctv H1 s' I1 eN T1 fo fn ff hco => spliced_nil ⟨I1.kIn, ?_⟩)
  refine wpAny_call (codeAny_mono (run_ofS (k := k + 1) (N := N) (ps := [a]) (us := [.ref f]) (vs := [.ref f]) (E := C8.E0) (CX := C8.CX0) (Q := Q) (H := H1) (outer := X.stack) (args := ⟨[.ref f], []⟩) lk hcg sc rm I1.env0 (b s' [.ref f] I1.kIn rfl) (.cons rfl .nil) rfl fun rm2 => ?_) fun out s2 ho => ?_)
  · obtain ⟨tt, h1, h2⟩ := G g cdv f c' s' H1 Q (fun E HZ Q => t E σ HZ Q) (act_of (k := k) I1 L fo fn ff rm gd (fun A outer s H E r2 g2 => hbody A outer s H E f c' r2 g2) hN hv hd hcd) hco (h H1 eN T1)
    exact ⟨tt, h1.nox, h2⟩
  · cases out with
    | error e => exact (show False from ho).elim
    | ok fl =>
      cases fl with
      | ret u => exact I1.after ho
      | next => exact False.elim ho
      | brk => exact False.elim ho
      | cont => exact False.elim ho
end
end KG

set_option Elab.async false
set_option linter.all false
set_option maxRecDepth 100000
set_option maxHeartbeats 1000000
/-! KT: the end of a law over promises where nothing is shown, the tables of code objects of its defs known. -/
namespace KG
open PySem PySem.Spec PySem.Calls PyProof.Rows L2 LamX

/-- the abstract heap at the start: the tables, the script -/
def H0 (K : PySem.W.Frag) (T : List Addr) (a : Addr) (vs : List Value) (ns : List Int) : Hp := fun b =>
  if b ∈ T then some (.tbl #[]) else if b = a ∧ K.lookup a = none then some (.frz { cls := .type "list", data := .seq vs.toArray } (.lst (ns.map V.int))) else none
section
variable {K : PySem.W.Frag} {T : List Addr} {a : Addr} {vs : List Value} {ns : List Int}
theorem H0_tab {b : Addr} (h : b ∈ T) : H0 K T a vs ns b = some (.tbl #[]) := if_pos h
theorem H0_a (h : a ∉ T) (hk : K.lookup a = none) : H0 K T a vs ns a = some (.frz { cls := .type "list", data := .seq vs.toArray } (.lst (ns.map V.int))) := (if_neg h).trans (if_pos ⟨rfl, hk⟩)
theorem H0_some {b : Addr} {u : HO} (h : H0 K T a vs ns b = some u) : (b ∈ T ∧ u = .tbl #[]) ∨ (b ∉ T ∧ b = a ∧ K.lookup a = none ∧ u = .frz { cls := .type "list", data := .seq vs.toArray } (.lst (ns.map V.int))) := by
  by_cases h1 : b ∈ T
  · rw [H0_tab h1] at h
    exact .inl ⟨h1, (Option.some.inj h).symm⟩
  · by_cases h2 : b = a ∧ K.lookup a = none
    · have e := ((if_neg h1).trans (if_pos h2)).symm.trans h
      exact .inr ⟨h1, h2.1, h2.2, (Option.some.inj e).symm⟩
    · have e := ((if_neg h1).trans (if_neg h2)).symm.trans h
      cases e
end

theorem law_gdT {P : Program} {w : World} {K : PySem.W.Frag} {mg mb : Str → Option Value} {CX : CXT} {k : Nat} {fa a : Addr} {cs : List (Addr × Addr)} {fd : FuncData} {x : Str} {sp : Sp} {s1 : Shared} {vs : List Value} {ns : List Int}
    (kin : K.In s1.heap) (nsm : s1.heap.Ns mainGlobals mg) (nsb : s1.heap.Ns builtinsNs mb) (mbb : ∀ x : Str, x ≠ "__name__" → mb x = bootBuiltins x) (lim : s1.heap.NoLimit) (nog : s1.gens = #[])
    (tab : ∀ p ∈ cs, s1.heap.get? p.2 = some { cls := .none, data := .fields #[] }) (notK : ∀ p ∈ cs, K.lookup p.2 = none) (code : ∀ p ∈ cs, PySem.W.CodeHd s1.heap p.1 p.2)
    (bmain : ∃ (bm : Addr) (ob : Obj), mg "__builtins__" = some (.ref bm) ∧ bm ≠ builtinsNs ∧ s1.heap.get? bm = some ob ∧ ob.cls = .type "module" ∧ ob.dict = some builtinsNs ∧ ob.data = .plain)
    (atA : s1.heap.get? a = some { cls := .type "list", data := .seq vs.toArray }) (isn : IntsAre vs ns) (small : ns.length ≤ sizeLine) (rm : Room k callerA)
    (F : ∀ base : Heap, K.In base → base.Ns mainGlobals mg → (∀ p ∈ cs, TabB base mg p.1 p.2) → Gd P w K mg base CX k fa fd [x] sp) (bt : ∀ (s : Shared) (u : Value), BindsTo s fd ⟨[u], []⟩ [(x, u)])
    (start_ : ∀ H : Hp, (∀ p ∈ cs, H p.2 = some (.tbl #[])) → SqL K H a (ns.map V.int) → sp [.ref a] H (fun v _ => v = .bl true) fun _ _ _ => False)
    (quiet : ∀ H e s', CX [] H s1 (fun _ _ _ => False) e s' → False) :
    codeAny (model P w) callerA (.call (.ref fa) ⟨[.ref a], []⟩) (fun r s' => r = .ok (.ret (.bool true)) ∧ OldK s1.heap s'.heap ∧ s'.os = s1.os ∧ AllBare s'.gens) s1 := by
  have rv := vals_ints isn
  have inT : ∀ p ∈ cs, p.2 ∈ cs.map (·.2) := fun p hp => List.mem_map_of_mem hp
  have ofT : ∀ b ∈ cs.map (·.2), ∃ p ∈ cs, p.2 = b := fun b hb => List.mem_map.mp hb
  have emp : ∀ b ∈ cs.map (·.2), s1.heap.get? b = some { cls := .none, data := .fields #[] } := fun b hb => by
    obtain ⟨p, hp, e⟩ := ofT b hb
    exact e ▸ tab p hp
  have aT : a ∉ cs.map (·.2) := fun z => by
    have y := emp a z
    rw [atA] at y
    exact nomatch congrArg Obj.data (Option.some.inj y)
  -- what is no table and no list is not tracked
  have plain : ∀ {b : Addr} {o : Obj}, s1.heap.get? b = some o → o.data ≠ .fields #[] → (∀ its n, o.data ≠ .seq its n) → H0 K (cs.map (·.2)) a vs ns b = none := fun {b o} e n1 n2 => by
    cases z : H0 K (cs.map (·.2)) a vs ns b with
    | none => rfl
    | some u =>
      rcases H0_some z with ⟨y, _⟩ | ⟨_, y, _⟩
      · rw [emp b y] at e
        cases e
        exact (n1 rfl).elim
      · rw [y, atA] at e
        cases e
        exact (n2 _ _ rfl).elim
  have ofK : ∀ {b : Addr} {o : Obj}, K.lookup b = some o → H0 K (cs.map (·.2)) a vs ns b = none := fun {b o} e => by
    cases z : H0 K (cs.map (·.2)) a vs ns b with
    | none => rfl
    | some u =>
      rcases H0_some z with ⟨y, _⟩ | ⟨_, y, n, _⟩
      · obtain ⟨p, hp, ep⟩ := ofT b y
        rw [← ep, notK p hp] at e
        cases e
      · rw [y, n] at e
        cases e
  have hok : HOk P w (H0 K (cs.map (·.2)) a vs ns) s1.heap := fun b u z => by
    rcases H0_some z with ⟨y, rfl⟩ | ⟨_, rfl, _, rfl⟩
    · exact emp b y
    · exact ⟨atA, by rw [List.length_map]; exact small, vs, _, rv, atA⟩
  have sq : SqL K (H0 K (cs.map (·.2)) a vs ns) a (ns.map V.int) := by
    cases hk : K.lookup a with
    | some o =>
      have e := kin a o hk
      rw [atA] at e
      cases e
      exact .inr ⟨_, vs.toArray, _, hk, rfl, rfl, rfl, by rw [List.size_toArray, isn.length]; exact small, by simpa using rv⟩
    | none => exact .inl (.inr ⟨_, H0_a aT hk⟩)
  have keepN : ∀ {b : Addr} {m : Str → Option Value}, s1.heap.Ns b m → (hidT s1.heap (H0 K (cs.map (·.2)) a vs ns)).Ns b m := fun {b m} ⟨o, es, ep, e, d, r⟩ =>
    ⟨o, es, ep, hidT_get e (plain e (by rw [d]; exact nofun) (by rw [d]; exact nofun)), d, r⟩
  have kinH : K.In (hidT s1.heap (H0 K (cs.map (·.2)) a vs ns)) := fun b o e => hidT_get (kin b o e) (ofK e)
  have mod : Mod K mg (hidT s1.heap (H0 K (cs.map (·.2)) a vs ns)) := ⟨kinH, keepN nsm, ⟨mb, keepN nsb, mbb⟩, lim.elim fun mc h => ⟨mc, keepN h.1, h.2⟩⟩
  have tb : ∀ p ∈ cs, TabB (hidT s1.heap (H0 K (cs.map (·.2)) a vs ns)) mg p.1 p.2 := fun p hp => by
    obtain ⟨o, us, file, tf, flags, tg, inF, text, tt, e1, r1, r2, r3, rr⟩ := code p hp
    obtain ⟨bm, ob, b1, b2, b3, b4, b5, b6⟩ := bmain
    have other : ∀ {q : Addr}, q ≠ bm → True := fun _ => trivial
    refine ⟨⟨o, us, file, tf, flags, tg, inF, text, tt, hidT_get e1 (plain e1 (fun z => ?_) (by rw [r2]; exact nofun)), r1, r2, r3, rr⟩, ⟨bm, ob, b1, b2, fun z => ?_, fun z => ?_, hidT_get b3 (plain b3 (by rw [b6]; exact nofun) (by rw [b6]; exact nofun)), b4, b5, b6⟩, fun z => ?_⟩
    · rw [r2] at z
      cases z
      simp at r3
    · obtain ⟨oM, _, _, eM, dM, _⟩ := nsm
      rw [z, eM] at b3
      cases b3
      rw [b6] at dM
      cases dM
    · rw [z, tab p hp] at b3
      cases b3
      cases b6
    · obtain ⟨oM, _, _, eM, dM, _⟩ := nsm
      rw [z, tab p hp] at eM
      cases eM
      cases dM
  have e0 : Env0 P w K mg (hidT s1.heap (H0 K (cs.map (·.2)) a vs ns)) callerA [] s1 (H0 K (cs.map (·.2)) a vs ns) := ⟨rfl, mod, fun b o e => of_hidT e, Nat.le_of_eq (hidT_size _ _), trivial, fun b hb => absurd (show b ∈ ([] : List Addr) from hb) List.not_mem_nil, hok, .of_eq nog⟩
  refine codeAny_mono ((F _ kinH (keepN nsm) tb).go callerA [] s1 _ ⟨[.ref a], []⟩ [.ref a] [.ref a] _ _ rm rfl e0 (bt s1 (.ref a)) (.cons rfl .nil) (start_ _ (fun p hp => H0_tab (inT p hp)) sq)) fun r s' h => ?_
  match r, h with
  | .error e, h => exact (quiet _ e s' h).elim
  | .ok (.ret u), h =>
    obtain ⟨v, H', os, bare, un, hok', r', q⟩ := h
    have q' : v = .bl true := q
    subst q'
    obtain rfl : u = Value.bool true := r'
    have same : ∀ b o, b ∉ cs.map (·.2) → s1.heap.get? b = some o → s'.heap.get? b = some o := fun b o nb e => by
      cases z : H0 K (cs.map (·.2)) a vs ns b with
      | none => exact un.keep b o e z (by intro y; cases y) (by simp)
      | some t =>
        rcases H0_some z with ⟨y, _⟩ | ⟨_, _, _, rfl⟩
        · exact (nb y).elim
        · obtain ⟨g1, _⟩ := hok b _ z
          obtain ⟨g2, _⟩ := hok' b _ (un.frzs b _ _ z)
          rw [e] at g1
          cases g1
          exact g2
    have grown : ∀ p ∈ cs, ∃ more : Array Value, s'.heap.get? p.2 = some { cls := .none, data := .fields more } := fun p hp => by
      obtain ⟨more, z⟩ := un.tbls p.2 #[] (H0_tab (inT p hp))
      exact ⟨_, hok' p.2 _ z⟩
    refine ⟨rfl, ⟨fun b o e => ?_, fun b o e => ?_⟩, os, bare⟩
    · by_cases hb : b ∈ cs.map (·.2)
      · obtain ⟨p, hp, ep⟩ := ofT b hb
        obtain ⟨more, hm⟩ := grown p hp
        subst ep
        rw [tab p hp] at e
        cases e
        exact .inr (.inl ⟨((code p hp).tab (tab p hp)).isCodeTable, rfl, #[], more, rfl, by rw [Array.empty_append]; exact hm⟩)
      · exact .inl (same b o hb e)
    · by_cases hb : b ∈ cs.map (·.2)
      · obtain ⟨p, hp, ep⟩ := ofT b hb
        obtain ⟨more, hm⟩ := grown p hp
        exact ⟨_, ep ▸ hm⟩
      · exact ⟨o, same b o hb e⟩

/-- what the start tells of the tables of the top's defs -/
abbrev Tabs0 (q : Program) (mg : Str → Option Value) (h : Heap) : Prop :=
  ∀ d ∈ recsOf q, ∃ (a : Addr) (o : Obj) (fd : FuncData) (c P : Addr), mg d.name = some (.ref a) ∧ h.get? a = some o ∧ o.data = .func fd ∧ fd.code = .ref c ∧ h.IsCode c P #[] ∧ h.TableAt c P #[]
/-- .. of one def that the written part knows: its code object c, the table at P -/
theorem tab0 {q : Program} {K : PySem.W.Frag} {mg : Str → Option Value} {h : Heap} {x : Str} {f c P : Addr} {oc : Value} {od : Option Addr} {fd : FuncData} {sl : Array (Option Value)} (X : K.In h) (t : Tabs0 q mg h) (hr : ((recsOf q).any fun d => d.name == x) = true) (hm : mg x = some (.ref f))
    (lk : K.lookup f = some ⟨oc, od, .func fd, sl⟩) (hc : fd.code = .ref c) (hP : PySem.W.codeHdIn K c P = true) : h.get? P = some { cls := .none, data := .fields #[] } ∧ PySem.W.CodeHd h c P := by
  obtain ⟨d, hd, e⟩ := List.any_eq_true.mp hr
  obtain ⟨a', o', fd', c', P', h1, h2, h3, h4, h5, h6⟩ := t d hd
  rw [beq_iff_eq.mp e, hm] at h1
  cases h1
  rw [X _ _ lk] at h2
  cases h2
  cases h3
  rw [hc] at h4
  cases h4
  have hd1 := PySem.W.codeHd_of_K X hP
  obtain ⟨o, us, file, tf, flags, tg, inF, text, tt, e1, r1, r2, r3, rr⟩ := id hd1
  obtain ⟨⟨oc2, vc, g1, g2, g3, g4⟩, g5⟩ := h6
  rw [e1] at g1
  cases g1
  rw [r2] at g3
  cases g3
  rw [r3] at g4
  cases g4
  exact ⟨g5, hd1⟩
theorem walk_gdT {l : PySem.W.OpenLaw} {n k : Nat} {q : Program} {loose : List Str} {XP : (Str → Option Value) → Heap → Prop} {YP : World → Heap → Prop} {d : DefRec} {K : Params → PySem.W.Frag} {CX : CXT} {x : Str}
    (most : l.most = some n) (n2 : n ≤ sizeLine) (nod : d.params.defaults = []) (rm : Room k callerA)
    (hY : ∀ (w : World) (h : Heap), YP w h → (K w.params).In h)
    (F : ∀ (w : World) (mg : Str → Option Value) (fa : Addr) (h : Heap), YP w h → (K w.params).In h → h.Ns mainGlobals mg → mg d.name = some (.ref fa) → Tabs0 q mg h →
      ∃ (fd : FuncData) (cs : List (Addr × Addr)) (sp : Sp), (∀ p ∈ cs, h.get? p.2 = some { cls := .none, data := .fields #[] }) ∧ (∀ p ∈ cs, (K w.params).lookup p.2 = none) ∧ (∀ p ∈ cs, PySem.W.CodeHd h p.1 p.2) ∧ (∀ (s : Shared) (u : Value), BindsTo s fd ⟨[u], []⟩ [(x, u)]) ∧
        (∀ (H : Hp) (a : Addr) (ns : List Int), ns.length ≤ n → (∀ z ∈ ns, Builtin.Int.intBits z ≤ 1048576) → (∀ p ∈ cs, H p.2 = some (.tbl #[])) → SqL (K w.params) H a (ns.map V.int) → sp [.ref a] H (fun v _ => v = .bl true) fun _ _ _ => False) ∧
        ∀ base : Heap, (K w.params).In base → base.Ns mainGlobals mg → (∀ p ∈ cs, TabB base mg p.1 p.2) → Gd l.prog w (K w.params) mg base CX k fa fd [x] sp)
    (quiet : ∀ (H : Hp) (s : Shared) (e : Value) (s' : Shared), CX [] H s (fun _ _ _ => False) e s' → False) :
    PySem.W.WalkO q loose XP YP l.row.toRowW d [] (fun f vs => PySem.call f vs) := by
  refine Att.attach_callB most nod fun w s0 s1 mg mb fa o pm cd doc a vs ns G Y ho hd hcd hmg hobj hints hlen hbits hg => ?_
  have kin := hY w _ Y
  obtain ⟨fd, cs, sp, t1, t2, t3, hb, st, hF⟩ := F w mg fa _ Y kin G.T.g hmg G.T.tab
  exact law_gdT kin G.T.g G.T.b G.T.builtins G.T.nolimit hg t1 t2 t3 G.T.bmain hobj hints (Nat.le_trans hlen n2) rm hF hb (fun H h1 h2 => st H a ns hlen hbits h1 h2) fun H e s' => quiet H s1 e s'
end KG

set_option Elab.async false
set_option linter.all false
set_option maxRecDepth 100000
set_option maxHeartbeats 1000000
/-! KA: data of any kind, {} among them: repr, in a tuple of the written part. -/
namespace KG
open PySem PySem.Spec PySem.Calls PyProof.Rows L2

/-- x is the data d -/
def Da (H : Hp) (x : V) (d : PyData) : Prop := ∀ (X : Cx) (pins : List (Addr × Obj)) (σ : L2.St) (s : Shared) (u : Value), Inv X pins σ H s → RelV x u → ∃ as, Reads s.heap u d as
/-- .. none of its lists and dicts the table of modules -/
def Dn (H : Hp) (x : V) (d : PyData) : Prop := ∀ (X : Cx) (pins : List (Addr × Obj)) (σ : L2.St) (s : Shared) (u : Value), Inv X pins σ H s → RelV x u → ∃ as, Reads s.heap u d as ∧ sysModules ∉ as
inductive DaAll (H : Hp) : List V → List PyData → Prop
  | nil : DaAll H [] []
  | cons {x : V} {xs : List V} {d : PyData} {ds : List PyData} : Da H x d → DaAll H xs ds → DaAll H (x :: xs) (d :: ds)
section
variable {H : Hp} {x : V} {d : PyData}
theorem Dn.da (h : Dn H x d) : Da H x d := fun X pins σ s u I r => by
  obtain ⟨as, a, _⟩ := h X pins σ s u I r
  exact ⟨as, a⟩
theorem Dn.str (z : Str) : Dn H (.str z) (.str z) := fun X pins σ s u I r => by obtain ⟨t, rfl⟩ := r; exact ⟨[], .str z t, List.not_mem_nil⟩
theorem Da.non : Da H .non .none := fun X pins σ s u I r => by cases r; exact ⟨[], .none⟩
theorem Da.bl (b : Bool) : Da H (.bl b) (.bool b) := fun X pins σ s u I r => by cases r; exact ⟨[], .bool b⟩
theorem Da.int (i : Int) : Da H (.int i) (.int i) := fun X pins σ s u I r => by obtain ⟨t, rfl⟩ := r; exact ⟨[], .int i t⟩
theorem Da.str (z : Str) : Da H (.str z) (.str z) := (Dn.str z).da
theorem DaAll.reads : ∀ {xs : List V} {ds : List PyData} (_ : DaAll H xs ds) {X : Cx} {pins : List (Addr × Obj)} {σ : L2.St} {s : Shared} {us : List Value} (_ : Inv X pins σ H s) (_ : Vals xs us), ∃ as, ReadsAll s.heap us ds as
  | _, _, .nil, _, _, _, _, _, _, .nil => ⟨[], .nil⟩
  | _, _, .cons a t, X, pins, σ, s, _, I, .cons r rt => by
    obtain ⟨as, h1⟩ := a X pins σ s _ I r
    obtain ⟨bs, h3⟩ := t.reads I rt
    exact ⟨as ++ bs, .cons h1 h3⟩
theorem Da.lst {a : Addr} {xs : List V} {ds : List PyData} (h : H a = some (.lst xs)) (t : DaAll H xs ds) : Da H (.ref a) (.list ds) := fun X pins σ s u I r => by
  obtain rfl : u = Value.ref a := r
  obtain ⟨_, its, n, rv, ho⟩ := I.hok a _ h
  obtain ⟨as, h1⟩ := t.reads I rv
  exact ⟨a :: as, .list ho rfl rfl (by simpa using h1)⟩
theorem Da.tup {a : Addr} {xs : List V} {ds : List PyData} (h : H a = some (.tup xs)) (t : DaAll H xs ds) : Da H (.ref a) (.tuple ds) := fun X pins σ s u I r => by
  obtain rfl : u = Value.ref a := r
  obtain ⟨_, its, rv, ⟨o, ho, hc, n, hd⟩⟩ := I.hok a _ h
  obtain ⟨as, h1⟩ := t.reads I rv
  exact ⟨as, .tuple ho hc hd (by simpa using h1)⟩
/-- a list of two, beside the table of modules -/
theorem Dn.two {a : Addr} {z : Str} (h : H a = some (.lst [.str z, x])) (na : a ≠ sysModules) (t : Dn H x d) : Dn H (.ref a) (.list [.str z, d]) := fun X pins σ s u I r => by
  obtain rfl : u = Value.ref a := r
  obtain ⟨_, its, n, rv, ho⟩ := I.hok a _ h
  cases rv with
  | cons r1 rt =>
    obtain ⟨k, rfl⟩ := r1
    cases rt with
    | cons r2 rt =>
      cases rt
      obtain ⟨as, h1, h2⟩ := t X pins σ s _ I r2
      refine ⟨a :: ([] ++ (as ++ [])), .list ho rfl rfl (.cons (.str z k) (.cons h1 .nil)), fun hm => ?_⟩
      rcases List.mem_cons.mp hm with e | e
      · exact na e.symm
      · simp at e
        exact h2 e
theorem Dn.dict0 {a : Addr} (h : H a = some (.dK [])) : Dn H (.ref a) (.dict []) := fun X pins σ s u I r => by
  obtain rfl : u = Value.ref a := r
  obtain ⟨_, ns, vs, kv, ob, es, ep, ho, hx, hd, _, hp, _⟩ := I.hok a _ h
  cases kv
  have e : es.toList = [] := by
    cases z : es.toList with
    | nil => rfl
    | cons y ys =>
      rw [z] at hp
      cases hp
  refine ⟨[a], .dict (kvs := []) (as := []) (bs := []) ho hx.1 hd (by rw [e]; exact .nil) (by rw [e]; exact .nil), fun hb => ?_⟩
  rw [← List.mem_singleton.mp hb] at ns
  simp at ns
theorem Da.dict0 {a : Addr} (h : H a = some (.dK [])) : Da H (.ref a) (.dict []) := (Dn.dict0 h).da
end

section
variable {X : Cx}
/-- repr(x), x any data -/
def rReprA : List V → Hp → VK → Prop := fun xs H Q => ∃ x d, xs = [x] ∧ Da H x d ∧ (d.hasDict = true → Dn H x d) ∧ d.showable = true ∧ d.depth ≤ 40 ∧ d.shown.length ≤ sizeLine ∧ Q (.str d.shown) H
theorem call_reprA {k : Nat} (rm : Room k X.A) (gd : X.A.guards = some []) : CallR X (.builtin "repr") rReprA := by
  intro pins s σ H xs us Q I r h
  obtain ⟨x, d, rfl, hd, hn, sh, dp, sz, q⟩ := h
  obtain ⟨u, rfl, r1⟩ := vals1 r
  have rdn : ∃ as, Reads s.heap u d as ∧ (d.hasDict = true → sysModules ∉ as) := by
    cases z : d.hasDict with
    | false =>
      obtain ⟨as, rd⟩ := hd X pins σ s u I r1
      exact ⟨as, rd, nofun⟩
    | true =>
      obtain ⟨as, rd, n⟩ := hn z X pins σ s u I r1
      exact ⟨as, rd, fun _ => n⟩
  obtain ⟨as, rd, ha⟩ := rdn
  have room := rm.units
  have fin : ∀ (s' : Shared) (tk : Tok), Inv X pins σ H s' → EP X pins σ Q (.str d.shown tk) s' := fun s' tk J => ⟨.str d.shown, H, J, ⟨tk, rfl⟩, q⟩
  have intsz : ∀ i : Int, d = .int i → i.natAbs.log2 < 1920 := fun i e => by
    subst e
    simpa [PyData.showable] using sh
  have big : ∀ {a : Addr}, u = .ref a → wpAny (model X.prog X.w) X.A (call (.builtin "repr") [u]) (EP X pins σ Q) X.xe s := fun {a} e => by
    subst e
    exact repr_of_reads' rd sh ha gd (by omega) (fun _ _ z => z) (fun h' u tk keep => fin _ _ (I.kept (t' := tk) keep)) sz
  cases rd with
  | none =>
    rw [PyData.shown_none] at q
    exact PySem.P.repr_of_none ⟨.str _, H, I.tok _, ⟨_, rfl⟩, q⟩
  | bool b =>
    rw [PyData.shown_bool] at q
    exact PySem.P.repr_of_bool ⟨.str _, H, I.tok _, ⟨_, rfl⟩, by cases b <;> exact q⟩
  | int i t =>
    rw [PyData.shown_int] at q
    exact PySem.P.repr_of_int (intsz i rfl) ⟨.str _, H, I.tok _, ⟨_, rfl⟩, q⟩
  | str z t =>
    rw [PyData.shown_str] at q sz
    exact PySem.P.repr_of_str ⟨.str _, H, I.tok _, ⟨_, rfl⟩, q⟩ sz
  | list h1 h2 h3 h4 => exact big rfl
  | tuple h1 h2 h3 h4 => exact big rfl
  | dict h1 h2 h3 h4 h5 => exact big rfl
/-- x not in t, t a tuple of texts of the written part, x any data -/
def rNotInA (K : PySem.W.Frag) : R2 := fun x y H Q => ∃ (p : Addr) (d : PyData) (zs : List Str), y = .ref p ∧ Da H x d ∧ d.canLay0 = true ∧ d.depth ≤ 40 ∧ KTup K p (zs.map V.str) ∧ zs.all PyData.strOk = true ∧ Q (.bl (!(zs.any fun z => PyData.eqv (.str z) d))) H
theorem strs_reads {h : Heap} : ∀ {zs : List Str} {us : List Value}, Vals (zs.map V.str) us → ReadsAll h us (zs.map PyData.str) []
  | [], _, .nil => .nil
  | z :: zs, _, .cons r t => by
    obtain ⟨k, rfl⟩ := r
    exact .cons (as := []) (bs := []) (.str z k) (strs_reads t)
theorem strs_lay : ∀ {zs : List Str}, zs.all PyData.strOk = true → PyData.canLayAll0 (zs.map PyData.str) = true
  | [], _ => by simp [PyData.canLayAll0]
  | z :: zs, h => by
    rw [List.all_cons, Bool.and_eq_true] at h
    simp [PyData.canLayAll0, PyData.canLay0, strs_lay h.2, h.1]
theorem op_notInA {k : Nat} (rm : Room k X.A) : OpR X (compareOp .NotIn) (rNotInA X.K) := by
  intro pins s σ H x y v u Q I rx ry h
  obtain ⟨p, d, zs, rfl, hd, lay, dp, ⟨o, its, n, lk, hc, hdt, _, rv⟩, zok, q⟩ := h
  obtain rfl : u = Value.ref p := ry
  obtain ⟨as, rd⟩ := hd X pins σ s v I rx
  have room := rm.units
  refine SeqAt.notIn_tuple_reads (.tuple (I.kIn _ _ lk) hc hdt (strs_reads rv)) rd (strs_lay zok) lay (Nat.lt_of_le_of_lt (Nat.add_le_add_left (Nat.min_le_right _ _) _) (by omega)) ⟨.bl _, H, I, rfl, ?_⟩
  rw [List.any_map]
  exact q
end
end KG

set_option Elab.async false
set_option linter.all false
set_option maxRecDepth 100000
set_option maxHeartbeats 1000000
/-! KV: list.count of flat items; what a caught error of a known class answers. -/
namespace KG
open PySem PySem.Spec PySem.Calls PyProof.Rows L2
section
variable {X : Cx}
def rCountF (K : PySem.W.Frag) : V → List V → Hp → VK → Prop := fun x xs H Q => ∃ (p : Addr) (ys : List V) (y : V), x = .ref p ∧ xs = [y] ∧ SqL K H p ys ∧ flatV y = true ∧ ys.all flatV = true ∧ Q (.int (ys.countP fun z => eqV z y : Nat)) H
theorem count_eqU {x : V} : ∀ {xs : List V} {us : List Value}, Vals xs us → xs.all flatV = true → us.countP (eqU x) = xs.countP fun y => eqV y x
  | _, _, .nil, _ => rfl
  | y :: xs, u :: us, .cons r t, f => by
    rw [List.all_cons, Bool.and_eq_true] at f
    rw [List.countP_cons, List.countP_cons, eqU_of r f.1, count_eqU t f.2]
theorem mt_countF : MtR X "list.count" (rCountF X.K) := by
  intro pins s σ H x xs v us Q I rx rxs h
  obtain ⟨p, ys, y, rfl, rfl, hs, fy, fys, q⟩ := h
  cases rx
  obtain ⟨u, rfl, ru⟩ := vals1 rxs
  obtain ⟨its, rv, ⟨⟨cls, dd, data, sl⟩, n, ho, hc, hdn, hd⟩, hlen⟩ := I.list hs
  simp only at hc hd
  subst hc hd
  refine call_meets PySem.F.slot_list_count ⟨_, ho, rfl⟩ PySem.F.entry_list_count (PySem.F.args_list_count_2 _ _)
    (SeqAt.list_countAt p its.toArray n dd sl u (eqU y)) ⟨ho, fun u' hu' => mem_eqAt ru fy rv fys u' (by simpa using hu'), ?_⟩
  refine ⟨.int (ys.countP fun z => eqV z y : Nat), H, I.tok _, ⟨s.toks, ?_⟩, q⟩
  show Value.int ((its.toArray.toList.countP (eqU y) : Nat) : Int) s.toks = _
  rw [show its.toArray.toList = its from rfl, count_eqU rv fys]
end
/-- a list display, its place beside the table of modules -/
def NewB (Q : VK) (xs : List V) (H : Hp) : Prop := xs.length ≤ sizeLine ∧ ∀ p, H p = none → p ≠ sysModules → Q (.ref p) (upd H p (.lst xs))
def tLstB (t : TA) : TE := fun σ H Q => t σ H fun xs H1 => NewB Q xs H1
theorem pe_lstB {X : Cx} {es : List Expr} {t : TA} {pos : Pos} (h : PA X es t) : PE X (.List es pos) (tLstB t) := by
  refine ⟨fun pins s σ H Q I hq => wpAny_List_spliced (thn (h.run pos pins s σ H _ I hq) fun us s1 ⟨xs, H1, I1, r, z, q⟩ => ⟨by rw [← r.length]; exact z, ?_⟩)⟩
  exact ⟨.ref s1.heap.objs.size, _, I1.laid (t' := s1.toks) (o := .lst xs) (fun b u e => Heap.get?_push_of_some _ e) (Nat.le_refl _) ⟨z, us, 0, r, Heap.get?_push_size _ rfl⟩, rfl, q _ (I1.hok.fresh (Nat.le_refl _)) (Nat.ne_of_gt I1.big)⟩
theorem w_lstB {σ : L2.St} {H : Hp} {Q : VK} {t : TA} (q : t σ H fun xs H1 => NewB Q xs H1) : tLstB t σ H Q := q
theorem newB {xs : List V} {H : Hp} {Q : VK} (l : xs.length ≤ sizeLine) (q : ∀ (p : Addr) (H' : Hp), H p = none → p ≠ sysModules → H' p = some (.lst xs) → Same H H' → Q (.ref p) H') : NewB Q xs H :=
  ⟨l, fun p np ns => q p _ np ns upd_same fun b u e => by rw [upd_ne (ne_of_none e np)]; exact e⟩
/-! ### steps -/
section
variable {σ : L2.St} {H : Hp} {Q : VK} {K : PySem.W.Frag}
/-- isinstance of a known error, its class and dict in the heap H -/
theorem w_isE {a D dd : Addr} {fs : List (Str × V)} {c : V} {cv : Value} {b : Bool} (ha : H a = some (ErrO (.ref D) (some dd) a)) (hd : H dd = some (.xd fs)) (C : ExcC K D) (hc : ∀ u, RelV c u → u = cv) (e : PySem.W.kitOne K (.ref D) cv = some b) (q : Q (.bl b) H) : rIsErr K [.ref a, c] H Q :=
  ⟨a, D, dd, fs, c, cv, b, rfl, ha, hd, C, hc, e, q⟩
theorem w_cat {l b : Addr} {xs zs ys : List V} (h1 : H l = some (.lst xs)) (h2 : H b = some (.lst zs)) (e : xs ++ zs = ys) (z : ys.length ≤ sizeLine) (q : ∀ (p : Addr) (H' : Hp), H p = none → H' p = some (.lst ys) → Same H H' → Q (.ref p) H') : rCat (.ref l) (.ref b) H Q :=
  ⟨l, b, xs, zs, rfl, rfl, h1, h2, by rw [← List.length_append, e]; exact z, fun p np => q p _ np (by rw [e]; exact upd_same) fun b u e => by rw [upd_ne (ne_of_none e np)]; exact e⟩
theorem w_bm {T : String} {r : V → List V → Hp → VK → Prop} {to : TE} {t : TA} (q : to σ H fun x H1 => tyV K T x H1 ∧ t σ H1 fun xs H2 => r x xs H2 Q) : tBM K T r to t σ H Q := q
theorem ty_list {p : Addr} {xs : List V} (h : H p = some (.lst xs)) : tyV K "list" (.ref p) H := .inl ⟨rfl, xs, SqL.of h⟩
theorem w_app {p : Addr} {xs ys : List V} {y : V} (h : H p = some (.lst xs)) (z : xs.length < sizeLine) (e : xs ++ [y] = ys) (q : ∀ H' : Hp, H' p = some (.lst ys) → (∀ b, b ≠ p → H' b = H b) → Q .non H') : rAppend (.ref p) [y] H Q :=
  ⟨p, xs, y, rfl, rfl, h, z, q _ (by rw [e]; exact upd_same) fun b nb => upd_ne nb⟩
theorem w_count {p : Addr} {ys : List V} {y : V} {n : Nat} (h : H p = some (.lst ys)) (f : flatV y = true) (fs : ys.all flatV = true) (e : (ys.countP fun z => eqV z y) = n) (q : Q (.int (n : Nat)) H) : rCountF K (.ref p) [y] H Q :=
  ⟨p, ys, y, rfl, rfl, SqL.of h, f, fs, by rw [e]; exact q⟩
theorem w_errf {te : TE} {f : Str} (q : te σ H fun x H1 => ∃ (a C dd : Addr) (fs : List (Str × V)) (v : V), x = .ref a ∧ H1 a = some (ErrO (.ref C) (some dd) a) ∧ H1 dd = some (.xd fs) ∧ XfC K C ∧ PySem.W.findIn K (.ref C) f = some none ∧ fs.lookup f = some v ∧ Q v H1) : tErrF K te f σ H Q := q
end
end KG

set_option Elab.async false
set_option linter.all false
set_option maxRecDepth 100000
set_option maxHeartbeats 1000000
/-! KW: methods that may raise; own errors by their def. -/
namespace KG
open PySem PySem.Spec PySem.Calls PyProof.Rows L2
section
variable {P : Program} {w : World} {K : PySem.W.Frag} {mg : Str → Option Value} {base : Heap} {k : Nat} {x m qual : Str} {st : Stmt} {ps N : List Str} {sp : Sp} {C f : Addr}
theorem MetAt.gdx (D : MetAt K C m qual st ps f) (sc : FnScope N ps (defScope st)) (len : ∀ vs H Q E, sp vs H Q E → vs.length = ps.length)
    (inner : ∀ (cdv : Value) (A : Around) (outer : List Env) (s : Shared) (H : Hp) (vs : List V) (Q : VK) (E : XK),
      Room k (A.deeper (envOfC qual (defScope st) s.heap.objs.size f cdv)) → (A.deeper (envOfC qual (defScope st) s.heap.objs.size f cdv)).guards = some [] → sp vs H Q E →
      ∃ t, PSs (cxOf (L2.CX P w) P w K mg base N qual (defScope st) f cdv A outer s H E) (defBody st) t ∧ t { nx := fun _ H' => Q .non H', rt := Q } (start N vs) H) :
    ∃ fd, Meth K C m f ∧ Fun K m qual st f fd ∧ Binds K fd ps [] ∧ Gd P w K mg base (L2.CX P w) (k + 1) f fd ps sp := by
  obtain ⟨fd, a, F, b⟩ := D.ex
  exact ⟨fd, a, F, b, gdX F sc len inner⟩
end
/-- what a def that may raise lets out -/
theorem takes_cx {P : Program} {w : World} {K : PySem.W.Frag} {mg : Str → Option Value} {base : Heap} {N : List Str} {qual : Str} {sc : Scope} {f : Addr} {cd : Value} {A : Around} {outer : List Env} {s : Shared} {H : Hp} {E : XK} :
    Takes (cxOf (L2.CX P w) P w K mg base N qual sc f cd A outer s H E) (fun cls d _ H => E cls d H) := takes_of rfl rfl rfl rfl
theorem own_cx {P : Program} {w : World} {K : PySem.W.Frag} {mg : Str → Option Value} {base : Heap} {N : List Str} {qual : Str} {sc : Scope} {f : Addr} {cd : Value} {A : Around} {outer : List Env} {s : Shared} {H : Hp} {E : XK} :
    PassesOwn (model P w) (cxOf (L2.CX P w) P w K mg base N qual sc f cd A outer s H E).A (cxOf (L2.CX P w) P w K mg base N qual sc f cd A outer s H E).env (cxOf (L2.CX P w) P w K mg base N qual sc f cd A outer s H E).xe := passes_of rfl
/-- .. the lambda's frame -/
theorem takes_lam {X : Cx} {A : Around} {outer : List Env} {s : Shared} {H : Hp} {E : XK} {scope : Scope} {f c' : Addr} : Takes (LamX.lamCx X A outer s H E scope f c') (fun cls d _ H => E cls d H) := takes_of rfl rfl rfl rfl
theorem pass_lam {X : Cx} {A : Around} {outer : List Env} {s : Shared} {H : Hp} {E : XK} {scope : Scope} {f c' : Addr} : Passes (L2.CX X.prog X.w) (LamX.lamCx X A outer s H E scope f c') E := passes_call takes_lam fun _ _ _ _ h => h
theorem pass_cx {P : Program} {w : World} {K : PySem.W.Frag} {mg : Str → Option Value} {base : Heap} {N : List Str} {qual : Str} {sc : Scope} {f : Addr} {cd : Value} {A : Around} {outer : List Env} {s : Shared} {H : Hp} {E : XK} :
    Passes (L2.CX P w) (cxOf (L2.CX P w) P w K mg base N qual sc f cd A outer s H E) E := passes_call takes_cx fun _ _ _ _ h => h
/-- the def st is an error's __init__ of two lines -/
def ErrX (st : Stmt) (qual pv fld : Str) : Prop := ∃ (msg : Str) (j : Nat) (p0 p1 p2 p3 p4 p5 p6 p7 p8 p9 : Pos), defBody st = errBody msg pv fld j p0 p1 p2 p3 p4 p5 p6 p7 p8 p9 ∧ ErrT qual pv fld msg (defArgs st) (defScope st) j p0 p1 p2 p3 p4 p5 p6 p7 p8 p9
theorem pmk_errX {X : Cx} {k : Nat} {C fI : Addr} {x qual pv fld : Str} {st : Stmt} {p pos : Pos} {e : Expr} {es : List Expr} {ta : TA} (T : ErrC X.prog X.K C fI qual pv fld (defArgs st) (defBody st) (defScope st)) (TT : ErrX st qual pv fld)
    (hr : Room (k + 1) X.A) (hg : Gl X x) (hm : X.mg x = some (.ref C)) (ha : PA X (e :: es) ta)
    (hdb : (x == ("__debug__" : Str)) = false := by decide) (hs : starEach (e :: es) X.env = (false, eval e X.env) :: starEach es X.env := by rfl) (hpl : (backTo pos (starEach es X.env)).any (·.1) = false := by rfl) :
    PMk X (.Call (.Name x p) (e :: es) [] pos) (tErr C fld ta) := by
  obtain ⟨msg, j, p0, p1, p2, p3, p4, p5, p6, p7, p8, p9, hb, TT⟩ := TT
  rw [hb] at T
  exact pmk_err T TT hr hg hm ha hdb hs hpl
end KG

set_option Elab.async false
set_option linter.all false
set_option maxRecDepth 100000
set_option maxHeartbeats 1000000
/-! KZ: a text beside a dict; not in a tuple of texts. -/
namespace KG
open PySem PySem.Spec PySem.Calls PyProof.Rows L2 SeqAt
theorem sub_str_dict : isSubtype (.type "str") (.type "dict") = pure false := by rw [isSubtype_type]; kernel_rfl
theorem sub_dict_str : isSubtype (.type "dict") (.type "str") = pure false := by rw [isSubtype_type]; kernel_rfl
theorem dict_declines (l : Addr) (es : Array DictEntry) (n : Nat) (dd : Option Addr) (sl : Array (Option Value)) (b : Str) (u : Tok) :
    Meets (Builtin.«dict.__eq__» ⟨[.ref l, .str b u], []⟩) (fun _ R s => s.heap.get? l = some { cls := .type "dict", dict := dd, data := .dict es n, slots := sl } ∧ R (.ok (.ret .notImplemented)) s) :=
  .of_wp fun prog w A R s h => by
    obtain ⟨hp, g, d, tk, os⟩ := s
    obtain ⟨hl, h⟩ := h
    have f1 := sub_str_dict
    wp_walk using wpAny_loadPart' hl
    exact ⟨_, rfl, h⟩
theorem str_declines (b : Str) (u : Tok) (l : Addr) (es : Array DictEntry) (n : Nat) (dd : Option Addr) (sl : Array (Option Value)) :
    Meets (Builtin.«str.__eq__» ⟨[.str b u, .ref l], []⟩) (fun _ R s => s.heap.get? l = some { cls := .type "dict", dict := dd, data := .dict es n, slots := sl } ∧ R (.ok (.ret .notImplemented)) s) :=
  .of_wp fun prog w A R s h => by
    obtain ⟨hp, g, d, tk, os⟩ := s
    obtain ⟨hl, h⟩ := h
    have f1 := sub_dict_str
    wp_walk using wpAny_loadPart' hl
    exact ⟨_, rfl, h⟩
theorem eqAt_str_dict {A : Around} {s : Shared} {l : Addr} {es : Array DictEntry} {n : Nat} {dd : Option Addr} {sl : Array (Option Value)} (b : Str) (u : Tok) (ho : s.heap.get? l = some { cls := .type "dict", dict := dd, data := .dict es n, slots := sl }) (hu : A.units < cLine) : EqAt A s (.str b u) (.ref l) false := fun prog w E Q h => by
  unfold eqBool
  refine wpAny_holding ?_
  refine wpAny_ite_split (fun hab => absurd (eq_of_beq hab) nofun) (fun _ => ?_)
  refine wpAny_bind (rc_eq_decline_or (k := false) (typeIs_str s b u) ⟨_, ho, rfl⟩ (by decide) sub_dict_str F.slot_str_eq F.slot_dict_eq_refl
    (fun _ hq => call_meets F.slot_str_eq (typeIs_str s b u) F.entry_str_eq (F.args_str_eq_2 _ _) (str_declines b u l es n dd sl) ⟨ho, hq⟩)
    (fun _ hq => call_meets F.slot_dict_eq_refl ⟨_, ho, rfl⟩ F.entry_dict_eq (F.args_dict_eq_2 _ _) (dict_declines l es n dd sl b u) ⟨ho, hq⟩)
    (fun _ hq => wpAny_of_eq (rfl : isSame (.str b u) (.ref l) = pure false) hq) (.inr hu) (wpAny_truthy_bool h))
section
variable {X : Cx}
/-- x not in t, t a tuple of texts of the written part, x any data, {} too -/
def rNotInB (K : PySem.W.Frag) : R2 := fun x y H Q => ∃ (p : Addr) (d : PyData) (zs : List Str), y = .ref p ∧ Da H x d ∧ (d.canLay0 = true ∨ d = .dict []) ∧ d.depth ≤ 40 ∧ KTup K p (zs.map V.str) ∧ zs.all PyData.strOk = true ∧ Q (.bl (!(zs.any fun z => PyData.eqv (.str z) d))) H
theorem strs_mem : ∀ {zs : List Str} {us : List Value}, Vals (zs.map V.str) us → ∀ u ∈ us, ∃ z t, u = Value.str z t
  | [], _, .nil => fun u h => nomatch h
  | z :: zs, _, .cons r t => fun u h => by
    rcases List.mem_cons.mp h with e | e
    · obtain ⟨k, rfl⟩ := r
      exact ⟨z, k, e⟩
    · exact strs_mem t u e
theorem op_notInB {k : Nat} (rm : Room k X.A) : OpR X (compareOp .NotIn) (rNotInB X.K) := by
  intro pins s σ H x y v u Q I rx ry h
  obtain ⟨p, d, zs, rfl, hd, lay, dp, kt, zok, q⟩ := h
  rcases lay with lay | rfl
  · exact op_notInA rm pins s σ H x _ v u Q I rx ry ⟨p, d, zs, rfl, hd, lay, dp, kt, zok, q⟩
  · obtain ⟨o, its, n, lk, hc, hdt, _, rv⟩ := kt
    obtain rfl : u = Value.ref p := ry
    obtain ⟨as, rd⟩ := hd X pins σ s v I rx
    have room := rm.units
    cases rd with
    | @dict a oo es nn kvs as bs h1 h2 h3 h4 h5 =>
      obtain ⟨oc, od, odt, osl⟩ := oo
      dsimp only at h2 h3
      subst h2 h3
      refine SeqAt.notIn_tupleAt (fun _ => false) ⟨_, I.kIn _ _ lk, hc, _, hdt⟩ (fun y hy => ?_) ⟨.bl _, H, I, rfl, ?_⟩
      · obtain ⟨z, t, rfl⟩ := strs_mem rv y (by simpa using hy)
        exact eqAt_str_dict z t h1 (by show X.A.units + 1 < cLine; omega)
      · have e1 : (its.any fun _ => false) = false := by
          rw [← Array.any_toList]
          exact List.any_eq_false.mpr fun _ _ => Bool.false_ne_true
        have e2 : (zs.any fun z => PyData.eqv (.str z) (.dict [])) = false := List.any_eq_false.mpr fun z _ => by simp [PyData.eqv]
        rw [e2] at q
        rw [e1]
        exact q
end
end KG

set_option Elab.async false
set_option linter.all false
set_option maxRecDepth 100000
set_option maxHeartbeats 1000000
/-! KO: operators of own objects beside whole numbers, calls of own objects, calls by keywords alone, defaults of methods, written dicts with whole numbers as keys. -/
namespace KG
open PySem PySem.Spec PySem.Calls PyProof.Rows L2
section
variable {X : Cx} {CX : CXT} {k : Nat} {f C : Addr} {fd : FuncData} {ps ks : List Str} {sp : Sp} {E : XK} {x : Str} {p pos : Pos} {e : Expr} {es : List Expr} {kws : List Keyword} {ta t tk : TA}
/-- o op i, o an own object, i a whole number -/
def rOwnI (C : Addr) (sp : Sp) (E : XK) : R2 := fun x y H Q => ∃ (a dx : Addr) (fs : List (Str × V)) (i : Int), x = .ref a ∧ H a = some (.ins C dx fs) ∧ y = .int i ∧ sp [.ref a, .int i] H Q E
/-- what the class has for an operator -/
structure OpAt (K : PySem.W.Frag) (C f : Addr) (op : Operator) : Prop where
  first : PySem.W.selfFirst K C = true
  own : PySem.W.findIn K (.ref C) (PySem.dunder op.info.2) = some (some (.ref f))
  fn : PySem.W.isFn K (.ref f) = true
  refl : ∃ rc, PySem.W.findIn K (.ref C) (dunderR op.info.2) = some rc ∧ (rc = none ∨ ∃ g : Addr, rc = some (.ref g))
  int1 : ∃ fo, PySem.W.findIn K (.type "int") (PySem.dunder op.info.2) = some fo
  int2 : ∃ ro, PySem.W.findIn K (.type "int") (dunderR op.info.2) = some ro
  sub : PySem.W.subIn K (.type "int") (.ref C) = some false
theorem op_ownI {op : Operator} (O : OpAt X.K C f op) (F : Gd X.prog X.w X.K X.mg X.base CX k f fd ps sp) (rm : Room k X.A) (gd : X.A.guards = some []) (hb : Binds X.K fd ps []) (hx : Passes CX X E) : OpR X (binaryOp op) (rOwnI C sp E) := by
  intro pins s σ H x y v u Q I rx ry h
  obtain ⟨a, dx, fs, i, rfl, ea, rfl, q⟩ := h
  obtain rfl : v = Value.ref a := rx
  obtain ⟨t, rfl⟩ := ry
  obtain ⟨mA, J, _⟩ := ins_get I.hok ea
  obtain ⟨od, J, _⟩ := J.look
  obtain ⟨m, fr⟩ := I.fr
  obtain ⟨rc, hr, hp⟩ := O.refl
  obtain ⟨fo, h1⟩ := O.int1
  obtain ⟨ro, h2⟩ := O.int2
  have r2 : Vals [V.ref a, .int i] [Value.ref a, .int i t] := .cons rfl (.cons ⟨t, rfl⟩ .nil)
  have bt := bind_pos (dvs := []) (vs := [V.ref a, .int i]) F hb .nil I.kIn r2 q
  refine PySem.W.ksp_binT fr I.ok.mod.kin J rfl O.first O.own O.fn hr hp h1 h2 O.sub ?_
  refine wpAny_mono (run_g (us := [.ref a, .int i t]) F rm gd hx I bt r2 q) (fun v s' hv => ?_) fun _ _ z => z
  have rv : ∃ z, RelV z v := let ⟨z, _, _, rz, _⟩ := hv; ⟨z, rz⟩
  exact rv.elim fun z rz => SlX.cmpback rz hv
theorem w_own {a dx : Addr} {fs : List (Str × V)} {i : Int} {H : Hp} {Q : VK} (h : H a = some (.ins C dx fs)) (q : sp [.ref a, .int i] H Q E) : rOwnI C sp E (.ref a) (.int i) H Q := ⟨a, dx, fs, i, rfl, h, rfl, q⟩
/-! ### o(e, ..), o an own object that a name holds -/
def tOwnC (C : Addr) (sp : Sp) (E : XK) (n : Nat) (ta : TA) : TE := fun σ H Q => ∃ a : Addr, σ[n]? = some (some (.ref a)) ∧ ta σ H fun vs H1 => ∃ dx fs, H1 a = some (.ins C dx fs) ∧ sp (.ref a :: vs) H1 Q E
theorem own_with {M : Model} {A : Around} {W : Value → Shared → Prop} {s : Shared} {x C : Addr} {K : PySem.W.Frag} {args : List (Bool × Sem Value)} {Q : Value → Shared → Prop} (plain : (args.any (·.1) || ([] : List (Option Str × Sem Value)).any (·.1.isNone)) = false)
    (h : wpAny M A (evalArgs (.ref x) true args []) (fun a s1 => (∃ ox od, PySem.W.InstAt s1.heap x ox C od ∧ ox.data = .plain) ∧ wpAny M A (call (.ref x) a.pos a.kw) Q W s1) W s) : wpAny M A (callWith pos (.ref x) [] args []) Q W s := by
  unfold callWith
  refine wpAny_bind (wpAny_holding (wpAny_mono h (fun a s1 ⟨⟨ox, od, J, hd⟩, g⟩ => wpAny_bind (wpAny_standAt ?_)) fun _ _ z => z))
  simp only [plain]
  refine wpAny_bind ((PySem.W.kco_keeper (M := M) J hd).here ?_)
  have behind : ∀ {t : Sem Value}, wpAny M A t Q W s1 → wpAny M A (t >>= fun r => holding [r] point >>= fun _ => pure r) Q W s1 := fun ht =>
    wpAny_bind (wpAny_mono ht (fun r s2 hr => wpAny_bind (wpAny_holding (wpAny_point (wpAny_pure hr)))) fun _ _ z => z)
  exact behind (wpAny_operateT g)
theorem pe_ownC {n : Nat} (O : PySem.W.findIn X.K (.ref C) "__call__" = some (some (.ref f))) (fn : PySem.W.isFn X.K (.ref f) = true) (fi : PySem.W.fnIn X.K f = true) (F : Gd X.prog X.w X.K X.mg X.base CX k f fd ps sp) (rm : Room k X.A) (gd : X.A.guards = some []) (hb : Binds X.K fd ps []) (hx : Passes CX X E)
    (hv : PE X (.Name x p) (tVar n)) (ha : PA X (e :: es) ta) (he : starEach (e :: es) X.env = (false, eval e X.env) :: starEach es X.env := by rfl) (hpl : (backTo pos (starEach es X.env)).any (·.1) = false := by rfl) :
    PE X (.Call (.Name x p) (e :: es) [] pos) (tOwnC C sp E n ta) := by
  refine ⟨fun pins s σ H Q I h => ?_⟩
  obtain ⟨a, ea, q⟩ := h
  refine wpAny_Call_Name_kw (wpAny_mono (hv.run pins s σ H (fun v H' => v = .ref a ∧ ta σ H' fun vs H1 => ∃ dx fs, H1 a = some (.ins C dx fs) ∧ sp (.ref a :: vs) H1 Q E) I ⟨_, ea, rfl, q⟩) (fun u s1 hu => ?_) fun _ _ z => z)
  obtain ⟨v, H1, I1, rv, ev, q1⟩ := hu
  subst ev
  obtain rfl : u = Value.ref a := rv
  show wpAny _ _ (callWith pos (.ref a) [] (backTo pos (starEach (e :: es) X.env)) []) _ _ _
  rw [he]
  refine own_with (K := X.K) (C := C) (by show ((false || (backTo pos (starEach es X.env)).any (·.1)) || false) = false; rw [hpl]; rfl) (evalArgs_plain ?_)
  have args := ha.run pos pins s1 σ H1 _ I1 q1
  rw [he] at args
  refine wpAny_mono args (fun us s2 hs => ?_) fun _ _ z => z
  obtain ⟨vs, H2, J, r, dx, fs, ea2, q2⟩ := hs
  obtain ⟨mA, Z, _⟩ := ins_get J.hok ea2
  obtain ⟨od, Z, zd⟩ := Z.look
  refine ⟨⟨_, od, Z, by first | exact zd | rfl⟩, wpAny_call (PySem.W.kco_code J.kIn Z (by first | exact zd | rfl) O fn fi ?_)⟩
  have r1 : Vals (V.ref a :: vs) (Value.ref a :: us) := .cons rfl r
  refine codeAny_mono (F.go X.A X.stack s2 H2 ⟨.ref a :: us, []⟩ _ _ _ E rm gd J.env0 (bind_pos (dvs := []) F hb .nil J.kIn r1 (by rw [List.append_nil]; exact q2)) (by rw [List.append_nil]; exact r1) q2) fun out s' hq => ?_
  match out, hq with
  | .error e, hq => exact hx pins σ H2 s2 e s' J hq
  | .ok (.ret u), hq => exact J.after hq
/-! ### f(k = v, ..) -/
def tCallK (j : Nat) (sp : Sp) (gV : List V → List V) (E : XK) (tk : TA) : TE := fun σ H Q => tk σ H fun zs H2 => zs.length = j ∧ sp (gV zs) H2 Q E
theorem pe_gcallK {g : List Value → List Value → List Value} {gV : List V → List V → List V} (F : Gd X.prog X.w X.K X.mg X.base CX k f fd ps sp) (rm : Room k X.A) (gd : X.A.guards = some []) (gl : Gl X x) (at_ : X.mg x = some (.ref f)) (kp : PySem.W.keepIn X.K (.ref f) = true)
    (hb : KBn X.K fd ps 0 ks g gV) (hx : Passes CX X E) (hkw : PK X kws tk) (hall : (backToKw pos (keywordEach kws X.env)).all (·.1.isSome) = true := by rfl) (hks : (backToKw pos (keywordEach kws X.env)).filterMap (·.1) = ks := by rfl)
    (hdb : (x == ("__debug__" : Str)) = false := by decide) (hpl : ((backTo pos (starEach [] X.env)).any (·.1) || (backToKw pos (keywordEach kws X.env)).any (·.1.isNone)) = false := by rfl) :
    PE X (.Call (.Name x p) [] kws pos) (tCallK ks.length sp (gV []) E tk) := by
  refine ⟨fun pins s σ H Q I h => wpAny_Call_Name_kw (ld_glob I gl at_ (PySem.W.callWith_KW0 (first := []) (h₀ := X.base) I.ok.mod.kin kp hall (thn (hkw.run pos pins s σ H _ I h) fun ws s2 ⟨zs, H2, J, rz, lz, q2⟩ => ⟨J.kIn, ?_⟩) hpl) hdb)⟩
  rw [hks]
  exact run_g (us := []) F rm gd hx J (hb.to s2 [] ws J.kIn rfl (rz.length.symm.trans lz)) (hb.rel .nil rz) q2
theorem w_callK {σ : L2.St} {H : Hp} {Q : VK} {j : Nat} {gV : List V → List V} (q : tk σ H fun zs H2 => zs.length = j ∧ sp (gV zs) H2 Q E) : tCallK j sp gV E tk σ H Q := q
end
/-! ### defaults of a method -/
section
variable {P : Program} {w : World} {K : PySem.W.Frag} {mg : Str → Option Value} {base : Heap} {k : Nat} {x qual : Str} {st : Stmt} {ps N : List Str} {sp : Sp} {f : Addr} {fd : FuncData} {dvs : List V} {kws : List (Str × V)}
theorem gdD (F : FunD K x qual (defArgs st) (defBody st) (defScope st) dvs kws f fd) (sc : FnScope N ps (defScope st)) (len : ∀ vs H Q E, sp vs H Q E → vs.length = ps.length)
    (inner : ∀ (cdv : Value) (A : Around) (outer : List Env) (s : Shared) (H : Hp) (vs : List V) (Q : VK) (E : XK),
      Room k (A.deeper (envOfC qual (defScope st) s.heap.objs.size f cdv)) → (A.deeper (envOfC qual (defScope st) s.heap.objs.size f cdv)).guards = some [] → sp vs H Q E →
      ∃ t, PSs (cxOf (L2.CX P w) P w K mg base N qual (defScope st) f cdv A outer s H E) (defBody st) t ∧ t { nx := fun _ H' => Q .non H', rt := Q } (start N vs) H) :
    Gd P w K mg base (L2.CX P w) (k + 1) f fd ps sp := by
  obtain ⟨oc, od, dV, kV, doc, pm, an, cdv, ct, osl, rfl, found, code, _, _⟩ := F.ex
  exact gd_of found code sc len fun A outer s H vs Q E rm gd q => inner cdv A outer s H vs Q E rm gd q
/-- a def of the text that may raise -/
theorem gdF {x : Str} (F : Fun K x qual st f fd) (sc : FnScope N ps (defScope st)) (len : ∀ vs H Q E, sp vs H Q E → vs.length = ps.length)
    (inner : ∀ (cdv : Value) (A : Around) (outer : List Env) (s : Shared) (H : Hp) (vs : List V) (Q : VK) (E : XK),
      Room k (A.deeper (envOfC qual (defScope st) s.heap.objs.size f cdv)) → (A.deeper (envOfC qual (defScope st) s.heap.objs.size f cdv)).guards = some [] → sp vs H Q E →
      ∃ t, PSs (cxOf (L2.CX P w) P w K mg base N qual (defScope st) f cdv A outer s H E) (defBody st) t ∧ t { nx := fun _ H' => Q .non H', rt := Q } (start N vs) H) :
    Gd P w K mg base (L2.CX P w) (k + 1) f fd ps sp := gdX F sc len inner
end
/-- the def x, promised sp, which may raise -/
def CalX (P : Program) (w : World) (K : PySem.W.Frag) (mg : Str → Option Value) (base : Heap) (j : Nat) (x : Str) (ps : List Str) (sp : Sp) : Prop :=
  ∃ f fd, mg x = some (.ref f) ∧ PySem.W.keepIn K (.ref f) = true ∧ Binds K fd ps [] ∧ (∃ (oc : Value) (od : Option Addr) (osl : Array (Option Value)), K.lookup f = some ⟨oc, od, .func fd, osl⟩) ∧ Gd P w K mg base (L2.CX P w) j f fd ps sp
/-- .. called by keywords alone -/
def CalK (P : Program) (w : World) (K : PySem.W.Frag) (mg : Str → Option Value) (base : Heap) (j : Nat) (x : Str) (ks : List Str) (is : List Nat) (sp : Sp) : Prop :=
  ∃ f fd ps, mg x = some (.ref f) ∧ PySem.W.keepIn K (.ref f) = true ∧ KBn K fd ps 0 ks (fun us ws => us ++ sel is ws) (fun vs zs => vs ++ sel is zs) ∧ Gd P w K mg base (L2.CX P w) j f fd ps sp
section
variable {P : Program} {w : World} {K : PySem.W.Frag} {mg : Str → Option Value} {base : Heap} {k j : Nat} {x : Str} {st : Stmt} {ps N ks : List Str} {is : List Nat} {sp : Sp}
theorem DefAt.calX (D : DefAt K mg x st ps) (sc : FnScope N ps (defScope st)) (len : ∀ vs H Q E, sp vs H Q E → vs.length = ps.length)
    (inner : ∀ (f : Addr) (cdv : Value) (A : Around) (outer : List Env) (s : Shared) (H : Hp) (vs : List V) (Q : VK) (E : XK),
      Room k (A.deeper (envOfC x (defScope st) s.heap.objs.size f cdv)) → (A.deeper (envOfC x (defScope st) s.heap.objs.size f cdv)).guards = some [] → sp vs H Q E →
      ∃ t, PSs (cxOf (L2.CX P w) P w K mg base N x (defScope st) f cdv A outer s H E) (defBody st) t ∧ t { nx := fun _ H' => Q .non H', rt := Q } (start N vs) H) :
    CalX P w K mg base (k + 1) x ps sp := by
  obtain ⟨f, fd, a, F, b⟩ := D.ex
  have G : Gd P w K mg base (L2.CX P w) (k + 1) f fd ps sp := gdX F sc len (inner f)
  obtain ⟨oc, od, kV, doc, pm, an, cdv, ct, osl, e, found, code⟩ := F.ex
  exact ⟨f, fd, a, F.kp, b, ⟨oc, od, osl, by rw [found, e]⟩, G⟩
theorem CalX.kw (c : CalX P w K mg base j x ps sp) (D : DefAt K mg x st ps) (h : BindOkK x x st ps 0 ks is) : CalK P w K mg base j x ks is sp := by
  obtain ⟨f, fd, a, kp, b, ⟨oc, od, osl, l⟩, G⟩ := c
  obtain ⟨f', fd', a', F, _⟩ := D.ex
  rw [a] at a'
  cases a'
  have e : fd' = fd := by
    obtain ⟨_, _, _, _, _, _, _, _, _, _, found, _⟩ := F.ex
    rw [l] at found
    cases found
    rfl
  rw [e] at F
  exact ⟨f, fd, ps, a, kp, kbn_of F 0 ks is h, G⟩
end
section
variable {X : Cx} {j k : Nat} {x : Str} {ps ks : List Str} {is : List Nat} {sp : Sp} {p pos : Pos} {e : Expr} {es : List Expr} {kws : List Keyword} {t tk : TA} {E : XK}
theorem pcX (c : CalX X.prog X.w X.K X.mg X.base j x ps sp) (hx : Passes (L2.CX X.prog X.w) X E) (rm : Room k X.A) (hk : j ≤ k) (gd : X.A.guards = some []) (gl : Gl X x) (ha : PA X (e :: es) t)
    (hdb : (x == ("__debug__" : Str)) = false := by decide) (he : starEach (e :: es) X.env = (false, eval e X.env) :: starEach es X.env := by rfl) (hpl : (backTo pos (starEach es X.env)).any (·.1) = false := by rfl) :
    PE X (.Call (.Name x p) (e :: es) [] pos) (tCall sp [] E t) := by
  obtain ⟨f, fd, a, kp, b, _, F⟩ := c
  exact pe_gcall F (rm.mono hk) gd gl a kp b .nil hx ha hdb he hpl
theorem pcK (c : CalK X.prog X.w X.K X.mg X.base j x ks is sp) (hx : Passes (L2.CX X.prog X.w) X E) (rm : Room k X.A) (hk : j ≤ k) (gd : X.A.guards = some []) (gl : Gl X x) (hkw : PK X kws tk)
    (hall : (backToKw pos (keywordEach kws X.env)).all (·.1.isSome) = true := by rfl) (hks : (backToKw pos (keywordEach kws X.env)).filterMap (·.1) = ks := by rfl)
    (hdb : (x == ("__debug__" : Str)) = false := by decide) (hpl : ((backTo pos (starEach [] X.env)).any (·.1) || (backToKw pos (keywordEach kws X.env)).any (·.1.isNone)) = false := by rfl) :
    PE X (.Call (.Name x p) [] kws pos) (tCallK ks.length sp (fun zs => [] ++ sel is zs) E tk) := by
  obtain ⟨f, fd, ps, a, kp, b, F⟩ := c
  exact pe_gcallK F (rm.mono hk) gd gl a kp b hx hkw hall hks hdb hpl
end
/-! ### a written dict with whole numbers as keys -/
inductive KEnts : List DictEntry → List (Int × V) → Prop
  | nil : KEnts [] []
  | cons {e : DictEntry} {i : Int} {v : V} {es : List DictEntry} {kvs : List (Int × V)} : (∃ t, e.key = .int i t) → e.hash = hashInt i → RelV v e.val → KEnts es kvs → KEnts (e :: es) ((i, v) :: kvs)
def KID (K : PySem.W.Frag) (p : Addr) (kvs : List (Int × V)) : Prop := (p == sysModules) = false ∧ ∃ (es : List DictEntry) (n : Nat), K.lookup p = some ⟨.type "dict", none, .dict es.toArray n, #[]⟩ ∧
  KEnts es kvs
theorem kid_find {es : List DictEntry} {kvs : List (Int × V)} (h : KEnts es kvs) (i : Int) :
    (kvs.lookup i = none ∧ findBy Value.isInt es.toArray i = none) ∨ ∃ v u, kvs.lookup i = some v ∧ findBy Value.isInt es.toArray i = some u ∧ RelV v u := by
  unfold findBy
  rw [List.find?_toArray]
  induction h with
  | nil => exact .inl ⟨rfl, rfl⟩
  | @cons e j v es kvs hk _ rv t ih =>
    obtain ⟨tk, ek⟩ := hk
    have e1 : Value.isInt i e.key = decide (j = i) := by
      rw [ek]
      show (j == i) = decide (j = i)
      by_cases h : j = i
      · rw [decide_eq_true h, h]; exact beq_self_eq_true i
      · rw [decide_eq_false h]; exact beq_eq_false_iff_ne.mpr h
    by_cases z : j = i
    · subst z
      refine .inr ⟨v, e.val, by simp [List.lookup_cons], ?_, rv⟩
      rw [List.find?_cons_of_pos (by rw [e1]; exact decide_eq_true rfl)]
      rfl
    · have n1 : (i == j) = false := beq_eq_false_iff_ne.mpr (Ne.symm z)
      rw [List.lookup_cons, n1, List.find?_cons_of_neg (by rw [e1]; simpa using z)]
      exact ih
section
variable {X : Cx}
theorem kid_map {p : Addr} {kvs : List (Int × V)} {h : Heap} (kin : X.K.In h) {es : List DictEntry} {n : Nat} (l : X.K.lookup p = some ⟨.type "dict", none, .dict es.toArray n, #[]⟩) (f : KEnts es kvs) :
    h.MapOf (intKind X.prog X.w) p fun i => findBy Value.isInt es.toArray i := by
  refine ⟨_, es.toArray, n, kin _ _ l, ⟨rfl, rfl, rfl⟩, rfl, fun e he => ?_, fun _ => rfl⟩
  have he : e ∈ es := by simpa using he
  revert he
  clear l
  intro he
  rename e ∈ es.toArray => old
  clear old
  induction f with
  | nil => cases he
  | cons a hh _ _ ih =>
    rcases List.mem_cons.mp he with z | z
    · subst z
      obtain ⟨t, ek⟩ := a
      exact ⟨_, by rw [ek]; exact intKind_is _ _ _ _, hh⟩
    · exact ih z
def rInKI (K : PySem.W.Frag) : R2 := fun x y H Q => ∃ (i : Int) (p : Addr) (kvs : List (Int × V)), x = .int i ∧ y = .ref p ∧ KID K p kvs ∧ Q (.bl (kvs.lookup i).isSome) H
theorem op_inKI : OpR X (compareOp .In) (rInKI X.K) := by
  intro pins s σ H x y v u Q I rx ry h
  obtain ⟨i, p, kvs, rfl, rfl, ⟨lo, es, n, l, f⟩, q⟩ := h
  obtain ⟨t, rfl⟩ := rx
  cases ry
  refine wpAny_in_of (intKind_is X.prog X.w i t) lo (kid_map I.kIn l f) ?_
  have e : (findBy Value.isInt es.toArray i).isSome = (kvs.lookup i).isSome := by
    rcases kid_find f i with ⟨a, b⟩ | ⟨_, _, a, b, _⟩ <;> rw [a, b] <;> rfl
  rw [e]
  exact ⟨.bl (kvs.lookup i).isSome, H, I.tok _, rfl, q⟩
def rIxKI (K : PySem.W.Frag) : R2 := fun x y H Q => ∃ (i : Int) (p : Addr) (kvs : List (Int × V)) (v : V), x = .ref p ∧ y = .int i ∧ KID K p kvs ∧ kvs.lookup i = some v ∧ Q v H
theorem ix_KI : IxR X (rIxKI X.K) := by
  intro value slice pins s σ H x y v u Q I rx ry h hs
  obtain ⟨i, p, kvs, z, rfl, rfl, ⟨lo, es, n, l, f⟩, hz, q⟩ := h
  obtain rfl : v = Value.ref p := rx
  obtain ⟨t, rfl⟩ := ry
  have hm := kid_map I.kIn l f
  rcases kid_find f i with ⟨a, _⟩ | ⟨v1, u1, a, b, r⟩
  · rw [a] at hz; cases hz
  · rw [a] at hz
    cases hz
    exact tail_any hm.typeIs slot_dict_getitem.lookup (wpAny_getItem_of (intKind_is X.prog X.w i t) hm b ⟨_, H, I.tok _, r, q⟩) hs
end
/-! ### steps -/
section
variable {σ : L2.St} {H : Hp} {Q : VK} {ta tb tc : TE} {i j : Int}
/-- what a comprehension asks -/
def LcQ (J : It) (g : TG) (tt : TT) (te : TE) (vs : List Nat) (σ : L2.St) (H1 : Hp) (Q : VK) : Prop := ∀ D, H1 D = none → ∃ W : Nat → Nat → Hp → Prop, (∃ m, W 0 m (upd H1 D (.lst []))) ∧ ∀ i m H, W i m H →
  (J.stop i H ∧ Q (.ref D) H) ∨ (J.go i H ∧ ∃ Nx : Hp → Prop, (∀ H', Nx H' → ∃ m', m' < m ∧ W (i + 1) m' H') ∧ ∀ x H', J.yld i H x H' → g x (wipe σ vs) H' fun σ2 H2 => wipe σ2 vs = wipe σ vs ∧ tt σ2 H2 fun b H3 =>
    if b = true then te σ2 H3 fun y H4 => ∃ acc, H4 D = some (.lst acc) ∧ acc.length < sizeLine ∧ Nx (upd H4 D (.lst (acc ++ [y]))) else Nx H3)
theorem w_lc {wi : TI} {g : TG} {tt : TT} {te : TE} {vs : List Nat} (q : wi σ H fun J H1 => LcQ J g tt te vs σ H1 Q) : tLc wi g tt te vs σ H Q := q
theorem w_notV (q : ta σ H fun x H1 => ∃ c, x = .bl c ∧ Q (.bl (!c)) H1) : tNotV ta σ H Q := q
theorem w_chain {r r' : R2} (q : ta σ H fun x H1 => tb σ H1 fun y H2 => r x y H2 fun z H3 => ∃ k, z = .bl k ∧ (if k = true then tc σ H3 fun w' H4 => r' y w' H4 Q else Q (.bl false) H3)) : tChain r r' ta tb tc σ H Q := q
theorem w_neg (q : Q (.int (-i)) H) : rU (fun i => .int (-i)) (.int i) H Q := ⟨i, rfl, q⟩
theorem w_shl (c : CPow i j) (q : Q (.int (i * 2 ^ j.toNat)) H) : rI CPow (fun i j => .int (i * 2 ^ j.toNat)) (.int i) (.int j) H Q := ⟨i, j, rfl, rfl, c, q⟩
theorem w_shr (c : 0 ≤ j) (q : Q (.int (i / 2 ^ j.toNat)) H) : rI (fun _ j => 0 ≤ j) (fun i j => .int (i / 2 ^ j.toNat)) (.int i) (.int j) H Q := ⟨i, j, rfl, rfl, c, q⟩
end
end KG

set_option Elab.async false
set_option linter.all false
set_option maxRecDepth 100000
set_option maxHeartbeats 1000000
/-! KP: operators with a whole number on the left of an own object, in-place forms of own operators, the unary one. -/
namespace KG
open PySem PySem.Spec PySem.Calls PyProof.Rows L2
/-- what a whole number's own operator says beside an own object -/
def Nay (op : Operator) (idl : String) : Prop := ∀ (prog : Program) (w : World) (A : Around) (E : Value → Shared → Prop) (s : Shared) (i : Int) (t : Tok) (x C dx : Addr) (Q : Option Value → Shared → Prop), s.heap.get? x = some (PySem.W.instObj C dx) → Q none s → wpAny (model prog w) A (tryMethod (.int i t) (PySem.dunder op.info.2) (.ref x)) Q E s
theorem meets_and (i : Int) (t : Tok) (x C dx : Addr) : Meets (Builtin.«int.__and__» ⟨[.int i t, .ref x], []⟩) (fun _ R s => s.heap.get? x = some (PySem.W.instObj C dx) ∧ R (.ok (.ret Value.notImplemented)) s) :=
  .of_wp fun prog w A R s h => by
    obtain ⟨hp, g, d, tk, os⟩ := s
    obtain ⟨hl, h⟩ := h
    wp_walk using wpAny_loadPart' hl
    exact ⟨_, rfl, h⟩
theorem nay_and : Nay .BitAnd "int.__and__" := by
  intro prog w A E s i t x C dx Q ho q
  exact wpAny_tryMethod_declines (name := PySem.dunder "and") (typeIs_int s i t) PyProof.Rows.slot_int_and (call_meets PyProof.Rows.slot_int_and (typeIs_int s i t) PyProof.Rows.entry_int_and (PyProof.Rows.args_int_and _ _) (meets_and i t x C dx) ⟨ho, rfl, q⟩)
theorem meets_or (i : Int) (t : Tok) (x C dx : Addr) : Meets (Builtin.«int.__or__» ⟨[.int i t, .ref x], []⟩) (fun _ R s => s.heap.get? x = some (PySem.W.instObj C dx) ∧ R (.ok (.ret Value.notImplemented)) s) :=
  .of_wp fun prog w A R s h => by
    obtain ⟨hp, g, d, tk, os⟩ := s
    obtain ⟨hl, h⟩ := h
    wp_walk using wpAny_loadPart' hl
    exact ⟨_, rfl, h⟩
theorem nay_or : Nay .BitOr "int.__or__" := by
  intro prog w A E s i t x C dx Q ho q
  exact wpAny_tryMethod_declines (name := PySem.dunder "or") (typeIs_int s i t) PyProof.Rows.slot_int_or (call_meets PyProof.Rows.slot_int_or (typeIs_int s i t) PyProof.Rows.entry_int_or (PyProof.Rows.args_int_or _ _) (meets_or i t x C dx) ⟨ho, rfl, q⟩)
theorem meets_xor (i : Int) (t : Tok) (x C dx : Addr) : Meets (Builtin.«int.__xor__» ⟨[.int i t, .ref x], []⟩) (fun _ R s => s.heap.get? x = some (PySem.W.instObj C dx) ∧ R (.ok (.ret Value.notImplemented)) s) :=
  .of_wp fun prog w A R s h => by
    obtain ⟨hp, g, d, tk, os⟩ := s
    obtain ⟨hl, h⟩ := h
    wp_walk using wpAny_loadPart' hl
    exact ⟨_, rfl, h⟩
theorem nay_xor : Nay .BitXor "int.__xor__" := by
  intro prog w A E s i t x C dx Q ho q
  exact wpAny_tryMethod_declines (name := PySem.dunder "xor") (typeIs_int s i t) PyProof.Rows.slot_int_xor (call_meets PyProof.Rows.slot_int_xor (typeIs_int s i t) PyProof.Rows.entry_int_xor (PyProof.Rows.args_int_xor _ _) (meets_xor i t x C dx) ⟨ho, rfl, q⟩)
section
variable {prog : Program} {w : World} {A : Around} {E : Value → Shared → Prop} {s : Shared} {K : PySem.W.Frag} {x C dx f g : Addr} {od : Option Obj} {h₀ : Heap} {L : Addr} {m : Str → Option Value} {op : Operator} {idl : String} {i : Int} {t : Tok}
/-- i op o, o an own object whose class has the operator on both sides -/
theorem back_side {Q : Value → Shared → Prop} (X : K.In s.heap) (I : PySem.W.InstAt s.heap x (PySem.W.instObj C dx) C od) (hc : PySem.W.selfFirst K C = true)
    (hs : PySem.W.findIn K (.ref C) (PySem.dunder op.info.2) = some (some (.ref f))) (hr : PySem.W.findIn K (.ref C) (dunderR op.info.2) = some (some (.ref g))) (hg : PySem.W.isFn K (.ref g) = true)
    (hsub : PySem.W.subIn K (.ref C) (.type "int") = some false) (fills : fillsNumberSlot (.type "int") op.info.2 = pure true) (no : Nay op idl)
    (q : wpAny (model prog w) A (call (.ref g) [.ref x, .int i t]) (PySem.W.CmpBack Q) E s) : wpAny (model prog w) A (binaryOp op (.int i t) (.ref x)) Q E s := by
  obtain ⟨cd, rest, ec, em⟩ := PySem.W.ksp_first hc
  have fl := PySem.W.fills_K (M := model prog w) X ec em hs
  have tx := I.type (M := model prog w)
  have tr := PySem.W.ksp_try (M := model prog w) (A := A) (E := E) X I hr hg q
  have tl : ∀ Q', Q' none s → wpAny (model prog w) A (tryMethod (.int i t) (PySem.dunder op.info.2) (.ref x)) Q' E s := fun Q' z => no prog w A E s i t x C dx Q' I.at_ z
  have sb := PySem.W.looks_subIn (M := model prog w) X hsub
  rcases ho : op.info with ⟨sym, nm⟩
  rw [ho] at fl tr tl fills
  simp only at fl tr tl fills
  have ne : (Value.type "int" == Value.ref C) = false := rfl
  have np : numberSlotInPython (.type "int") nm = pure false := rfl
  simp only [binaryOp, ho]
  refine wpAny_holding (wpAny_bind ?_)
  unfold binaryOp1
  refine wpAny_bind (wpAny_typeOf (typeIs_int s i t) (wpAny_bind (tx.here (wpAny_bind (wpAny_of_eq fills ?_)))))
  simp only [ne, Bool.false_eq_true, if_false]
  refine wpAny_bind (fl.here ?_)
  simp only [Bool.and_self, if_true]
  refine wpAny_bind (sb.here ?_)
  simp only [Bool.false_eq_true, if_false, pure_bind, Bool.not_false, Bool.and_self, if_true, np]
  refine wpAny_bind (tl _ ?_)
  refine wpAny_bind (wpAny_mono tr (fun r s' z => ?_) fun _ _ z => z)
  obtain ⟨v, rfl, z⟩ := z
  exact wpAny_bind (wpAny_rule (wpAny_pure (wpAny_pure z)))
/-- what o op i asks and does, o an own object whose class has the operator, i a whole number -/
theorem fore_side {Q : Option Value → Shared → Prop} {rc ro : Option Value} (X : K.In s.heap) (I : PySem.W.InstAt s.heap x (PySem.W.instObj C dx) C od) (hc : PySem.W.selfFirst K C = true)
    (hs : PySem.W.findIn K (.ref C) (PySem.dunder op.info.2) = some (some (.ref f))) (hf : PySem.W.isFn K (.ref f) = true) (hr : PySem.W.findIn K (.ref C) (dunderR op.info.2) = some rc) (hp : rc = none ∨ ∃ b : Addr, rc = some (.ref b))
    (hsub : PySem.W.subIn K (.type "int") (.ref C) = some false) (fills : fillsNumberSlot (.type "int") op.info.2 = pure true) (hi : PySem.W.findIn K (.type "int") (dunderR op.info.2) = some ro)
    (q : wpAny (model prog w) A (call (.ref f) [.ref x, .int i t]) (PySem.W.CmpBack fun v => Q (some v)) E s) : wpAny (model prog w) A (binaryOp1 op.info.2 (.ref x) (.int i t)) Q E s := by
  obtain ⟨cd, rest, ec, em⟩ := PySem.W.ksp_first hc
  have fl := PySem.W.fills_K (M := model prog w) X ec em hs
  have tx := I.type (M := model prog w)
  have tr := PySem.W.ksp_try (M := model prog w) (A := A) (E := E) (Q := fun v => Q (some v)) X I hs hf q
  have py := PySem.W.ksp_inPy (M := model prog w) X hs hr hp
  have sb := PySem.W.looks_subIn (M := model prog w) X hsub
  have lr := PySem.W.looks_findIn (M := model prog w) X hi
  generalize op.info.2 = nm at fl tr py lr fills
  have ne : (Value.ref C == Value.type "int") = false := rfl
  have np : numberSlotInPython (.type "int") nm = pure false := rfl
  unfold binaryOp1
  refine wpAny_bind (tx.here (wpAny_bind (wpAny_typeOf (typeIs_int s i t) (wpAny_bind (fl.here ?_)))))
  simp only [ne, Bool.false_eq_true, if_false]
  refine wpAny_bind (wpAny_of_eq fills ?_)
  simp only [Bool.and_self, if_true]
  refine wpAny_bind (sb.here ?_)
  simp only [Bool.false_eq_true, if_false, pure_bind, Bool.not_false, Bool.and_self, if_true]
  refine wpAny_bind (py.here ?_)
  simp only [if_true, np, pure_bind, Bool.not_false]
  refine wpAny_bind (lr.here ?_)
  refine wpAny_bind (wpAny_mono tr (fun r s' z => ?_) fun _ _ z => z)
  obtain ⟨v, rfl, z⟩ := z
  exact wpAny_pure z
theorem none_any {M : Model} {h : Heap} {i' : Str} {g' : Value → Option Value → Sem Bool} (X : K.In h) (z : ∀ c, g' c none = pure false) : ∀ {cs : List Value}, (∀ c ∈ cs, PySem.W.findIn K c i' = some none) →
    PySem.W.Looks M h (cs.anyM fun c => typeLookup c i' >>= g' c) false
  | [], _ => .of_pure rfl
  | c :: cs, a => fun A Q E s k q => by
    rw [List.anyM_cons]
    refine wpAny_bind (wpAny_bind ((PySem.W.looks_findIn X (a c (.head _))) A _ E s k ?_))
    rw [z c]
    refine wpAny_pure ?_
    simp only [Bool.false_eq_true, if_false]
    exact none_any X z (fun c' m => a c' (.tail _ m)) A Q E s k q
/-- a class that has no in-place form of an operator -/
theorem no_inp {M : Model} {h : Heap} {cd : ClassData} {nm : String} {add : Bool} (X : K.In h) (hc : PySem.W.clsIn K C = some cd) (hn : ∀ c ∈ cd.mro, PySem.W.findIn K c (dunderI nm) = some none) : PySem.W.Looks M h (fillsInplaceSlot (.ref C) nm add) false := fun A Q E s k q => by
  have Lm : PySem.W.Looks M h (mroOf (.ref C)) cd.mro := (PySem.W.looks_clsIn X hc).andThen (f := fun cd => pure cd.mro) .now
  unfold fillsInplaceSlot
  exact wpAny_bind (Lm A _ E s k (none_any X (fun _ => rfl) hn A Q E s k q))
/-- o op= i where the class has the operator and no in-place form of it -/
theorem inp_side {Q : Value → Shared → Prop} {cd : ClassData} {rc ro : Option Value} (X : K.In s.heap) (I : PySem.W.InstAt s.heap x (PySem.W.instObj C dx) C od) (hc : PySem.W.selfFirst K C = true) (hd : PySem.W.clsIn K C = some cd) (hn : ∀ c ∈ cd.mro, PySem.W.findIn K c (dunderI op.info.2) = some none)
    (hs : PySem.W.findIn K (.ref C) (PySem.dunder op.info.2) = some (some (.ref f))) (hf : PySem.W.isFn K (.ref f) = true) (hr : PySem.W.findIn K (.ref C) (dunderR op.info.2) = some rc) (hp : rc = none ∨ ∃ b : Addr, rc = some (.ref b))
    (hsub : PySem.W.subIn K (.type "int") (.ref C) = some false) (fills : fillsNumberSlot (.type "int") op.info.2 = pure true) (hi : PySem.W.findIn K (.type "int") (dunderR op.info.2) = some ro)
    (q : wpAny (model prog w) A (call (.ref f) [.ref x, .int i t]) (PySem.W.CmpBack Q) E s) : wpAny (model prog w) A (inplaceOp op (.ref x) (.int i t)) Q E s := by
  have tx := I.type (M := model prog w)
  have nf := no_inp (M := model prog w) (nm := op.info.2) (add := op == .Add) X hd hn
  unfold inplaceOp
  refine wpAny_holding (wpAny_bind (tx.here (wpAny_bind (nf.here ?_))))
  simp only [Bool.false_eq_true, if_false, pure_bind]
  refine wpAny_bind (fore_side X I hc hs hf hr hp hsub fills hi (wpAny_mono q (fun v s' z => ?_) fun _ _ z => z))
  cases v <;> first | exact z.elim | exact wpAny_pure z
end
section
variable {X : Cx} {CX : CXT} {k : Nat} {f g C : Addr} {fd : FuncData} {ps : List Str} {sp : Sp} {E : XK} {op : Operator} {idl : String}
/-- i op o, i a whole number, o an own object -/
def rBackI (C : Addr) (sp : Sp) (E : XK) : R2 := fun x y H Q => ∃ (a dx : Addr) (fs : List (Str × V)) (i : Int), y = .ref a ∧ H a = some (.ins C dx fs) ∧ x = .int i ∧ sp [.ref a, .int i] H Q E
/-- what the class has for an operator from behind -/
structure BackAt (K : PySem.W.Frag) (C f g : Addr) (op : Operator) (idl : String) : Prop where
  first : PySem.W.selfFirst K C = true
  own : PySem.W.findIn K (.ref C) (PySem.dunder op.info.2) = some (some (.ref f))
  back : PySem.W.findIn K (.ref C) (dunderR op.info.2) = some (some (.ref g))
  fn : PySem.W.isFn K (.ref g) = true
  sub : PySem.W.subIn K (.ref C) (.type "int") = some false
  fills : fillsNumberSlot (.type "int") op.info.2 = pure true
  nay : Nay op idl
/-- what the class has for an in-place form -/
structure InAt (K : PySem.W.Frag) (C f : Addr) (op : Operator) : Prop extends OpAt K C f op where
  none_ : ∃ cd, PySem.W.clsIn K C = some cd ∧ ∀ c ∈ cd.mro, PySem.W.findIn K c (dunderI op.info.2) = some none
  fills : fillsNumberSlot (.type "int") op.info.2 = pure true
theorem op_backI (O : BackAt X.K C f g op idl) (F : Gd X.prog X.w X.K X.mg X.base CX k g fd ps sp) (rm : Room k X.A) (gd : X.A.guards = some []) (hb : Binds X.K fd ps []) (hx : Passes CX X E) : OpR X (binaryOp op) (rBackI C sp E) := by
  intro pins s σ H x y v u Q I rx ry h
  obtain ⟨a, dx, fs, i, rfl, ea, rfl, q⟩ := h
  obtain ⟨t, rfl⟩ := rx
  obtain rfl : u = Value.ref a := ry
  obtain ⟨mA, J, _⟩ := ins_get I.hok ea
  obtain ⟨od, J, _⟩ := J.look
  have r2 : Vals [V.ref a, .int i] [Value.ref a, .int i t] := .cons rfl (.cons ⟨t, rfl⟩ .nil)
  have bt := bind_pos (dvs := []) (vs := [V.ref a, .int i]) F hb .nil I.kIn r2 q
  refine back_side I.kIn J O.first O.own O.back O.fn O.sub O.fills O.nay ?_
  refine wpAny_mono (run_g (us := [.ref a, .int i t]) F rm gd hx I bt r2 q) (fun v s' hv => ?_) fun _ _ z => z
  have rv : ∃ z, RelV z v := let ⟨z, _, _, rz, _⟩ := hv; ⟨z, rz⟩
  exact rv.elim fun z rz => SlX.cmpback rz hv
theorem op_inI (O : InAt X.K C f op) (F : Gd X.prog X.w X.K X.mg X.base CX k f fd ps sp) (rm : Room k X.A) (gd : X.A.guards = some []) (hb : Binds X.K fd ps []) (hx : Passes CX X E) : OpR X (inplaceOp op) (rOwnI C sp E) := by
  intro pins s σ H x y v u Q I rx ry h
  obtain ⟨a, dx, fs, i, rfl, ea, rfl, q⟩ := h
  obtain rfl : v = Value.ref a := rx
  obtain ⟨t, rfl⟩ := ry
  obtain ⟨mA, J, _⟩ := ins_get I.hok ea
  obtain ⟨od, J, _⟩ := J.look
  obtain ⟨rc, hr, hp⟩ := O.refl
  obtain ⟨ro, h2⟩ := O.int2
  obtain ⟨cd, hc, hn⟩ := O.none_
  have r2 : Vals [V.ref a, .int i] [Value.ref a, .int i t] := .cons rfl (.cons ⟨t, rfl⟩ .nil)
  have bt := bind_pos (dvs := []) (vs := [V.ref a, .int i]) F hb .nil I.kIn r2 q
  refine inp_side I.kIn J O.first hc hn O.own O.fn hr hp O.sub O.fills h2 ?_
  refine wpAny_mono (run_g (us := [.ref a, .int i t]) F rm gd hx I bt r2 q) (fun v s' hv => ?_) fun _ _ z => z
  have rv : ∃ z, RelV z v := let ⟨z, _, _, rz, _⟩ := hv; ⟨z, rz⟩
  exact rv.elim fun z rz => SlX.cmpback rz hv
/-- ~o, o an own object -/
def rInvO (C : Addr) (sp : Sp) (E : XK) : V → Hp → VK → Prop := fun x H Q => ∃ (a dx : Addr) (fs : List (Str × V)), x = .ref a ∧ H a = some (.ins C dx fs) ∧ sp [.ref a] H Q E
theorem un_inv (O : PySem.W.findIn X.K (.ref C) "__invert__" = some (some (.ref f))) (fn : PySem.W.isFn X.K (.ref f) = true) (F : Gd X.prog X.w X.K X.mg X.base CX k f fd ps sp) (rm : Room k X.A) (gd : X.A.guards = some []) (hb : Binds X.K fd ps []) (hx : Passes CX X E) : UnR X (unaryOp .Invert) (rInvO C sp E) := by
  intro pins s σ H x v Q I rx h
  obtain ⟨a, dx, fs, rfl, ea, q⟩ := h
  obtain rfl : v = Value.ref a := rx
  obtain ⟨mA, J, _⟩ := ins_get I.hok ea
  obtain ⟨od, J, _⟩ := J.look
  obtain ⟨m, fr⟩ := I.fr
  have r2 : Vals [V.ref a] [Value.ref a] := .cons rfl .nil
  have bt := bind_pos (dvs := []) (vs := [V.ref a]) F hb .nil I.kIn r2 q
  exact PySem.W.ksp_inv fr I.ok.mod.kin J O fn (wpAny_mono (run_g (us := [.ref a]) F rm gd hx I bt r2 q) (fun v s' hv => hv) fun _ _ z => z)
theorem w_backO {a dx : Addr} {fs : List (Str × V)} {i : Int} {H : Hp} {Q : VK} (h : H a = some (.ins C dx fs)) (q : sp [.ref a, .int i] H Q E) : rBackI C sp E (.int i) (.ref a) H Q := ⟨a, dx, fs, i, rfl, h, rfl, q⟩
theorem w_invO {a dx : Addr} {fs : List (Str × V)} {H : Hp} {Q : VK} (h : H a = some (.ins C dx fs)) (q : sp [.ref a] H Q E) : rInvO C sp E (.ref a) H Q := ⟨a, dx, fs, rfl, h, q⟩
end
end KG

set_option Elab.async false
set_option linter.all false
set_option maxRecDepth 100000
set_option maxHeartbeats 1000000
/-! KQ: properties and classmethods whose defs are known where nothing is being shown. -/
namespace KG
open PySem PySem.Spec PySem.Calls PyProof.Rows L2
section
variable {X : Cx} {CX : CXT} {k : Nat} {C p g : Addr} {mc : Value} {fd : FuncData} {ps : List Str} {sp : Sp} {E : XK} {o e : Expr} {es : List Expr} {m : Str} {pos apos : Pos} {ta : TE} {t : TA}
/-- o.m, a property -/
theorem pe_gprop (he : PE X o ta) (c : Cls X.K C) (P : PropOf X.K C m p g) (F : Gd X.prog X.w X.K X.mg X.base CX k g fd ps sp) (rm : Room (k + 1) X.A) (gd : X.A.guards = some []) (hb : Binds X.K fd ps []) (hx : Passes CX X.nox E)
    (ab : attributeBase o m X.env (eval o X.env) = eval o X.env := by rfl) : PE X (.Attribute o m pos) (tProp C sp [] E ta) := by
  refine ⟨fun pins s σ H Q I z => attr_of ab (thn (he.run pins s σ H _ I z) fun u s1 z1 => ?_)⟩
  obtain ⟨_, H1, J, ru, a, dx, fs, rfl, ea, q⟩ := z1
  obtain rfl : u = Value.ref a := ru
  obtain ⟨mA, O, _⟩ := ins_get J.hok ea
  obtain ⟨od, O, _⟩ := O.look
  obtain ⟨tail, isP⟩ := P.rec_
  have isC : (PySem.W.clsIn X.K C).isSome = true := let ⟨_, w, _⟩ := PySem.W.any_some c.hd; w ▸ rfl
  have J1 := J.tok (s1.toks + 1)
  have pg := PySem.W.plainGet_of (c.get m)
  refine PySem.W.get_bind J.kIn O pg.1 (PySem.W.findObj_data isC P.at_ P.get P.tak) pg.2 (wpAny_call (PySem.W.prop_get (s := { s1 with toks := s1.toks + 1 }) J.kIn isP ?_))
  have r1 : Vals [V.ref a] [Value.ref a] := .cons rfl .nil
  have bt := bind_pos (dvs := []) (vs := [V.ref a]) F hb .nil J1.kIn r1 q
  refine codeAny_mono (F.go X.A.in1 X.stack { s1 with toks := s1.toks + 1 } H1 ⟨[.ref a], []⟩ _ _ Q E rm.in1 gd J1.env0.in1 bt r1 q) fun out s2 z2 => ?_
  match out, z2 with
  | .error er, z2 => exact (hx pins σ H1 { s1 with toks := s1.toks + 1 } er s2 (J1.wish _) z2).elim
  | .ok (.ret u), z2 =>
    obtain ⟨v, H2, J2, rv, q2⟩ := J1.after z2
    show wpAny _ _ (handedOut u) _ _ _
    rw [PySem.W.handedOut_of (handed_of rv)]
    exact wpAny_pure ⟨v, H2, J2, rv, q2⟩
/-- o.m(e, ..), o the class, m a classmethod -/
theorem pe_gcm {pl : Sem Bool} (he : PE X o ta) (r : ClX.CRead X.K C mc) (c : ClX.CMet X.K C mc m p g) (F : Gd X.prog X.w X.K X.mg X.base CX k g fd ps sp) (rm : Room k X.A) (gd : X.A.guards = some []) (hb : Binds X.K fd ps []) (hx : Passes CX X E) (ha : PA X (e :: es) t)
    (hst : starEach (e :: es) X.env = (false, eval e X.env) :: starEach es X.env := by rfl) (hpl : (backTo pos (starEach es X.env)).any (·.1) = false := by rfl)
    (ht : eval (.Call (.Attribute o m apos) (e :: es) [] pos) X.env = (do
      let w ← eval o X.env
      standAt apos.atName
      let (g, a) ← holding [w] (getMethod w m pl)
      callWith pos g a (backTo pos (starEach (e :: es) X.env)) (backToKw pos (keywordEach [] X.env))) := by rfl) :
    PE X (.Call (.Attribute o m apos) (e :: es) [] pos) (ClX.tCMeth C sp E ta t) := by
  refine ⟨fun pins s σ H Q I z => PySem.W.methodCall_KW (pl := pl) (thn (he.run pins s σ H _ I z) fun u s1 z1 => ?_) ht⟩
  obtain ⟨_, H1, J, ru, rfl, q⟩ := z1
  obtain rfl : u = Value.ref C := ru
  refine ClX.getmethcm_ok J r c fun s2 J2 => ClX.callwith_cm J2 (ClX.base_none J (Nat.le_refl _)) c.fi (thn (ha.run pos _ s2 σ H1 _ J2 q) fun us s3 z3 => ?_) hst hpl
  obtain ⟨vs, H2, J3, rv, q2⟩ := z3
  have r1 : Vals (V.ref C :: vs) (Value.ref C :: us) := .cons rfl rv
  have bt := bind_pos (dvs := []) (vs := V.ref C :: vs) F hb .nil J3.kIn r1 (by rw [List.append_nil]; exact q2)
  refine ⟨⟨ClX.pin_at J3, J3.kIn⟩, ?_⟩
  have run : wpAny (model X.prog X.w) X.A (call (.ref s1.heap.objs.size) us) (EP X ((s1.heap.objs.size, PySem.W.methodObj (.ref g) (.ref C)) :: pins) σ Q) X.xe s3 := by
    refine wpAny_call (PySem.W.method_call (ClX.pin_at J3) (codeAny_mono (F.go X.A X.stack s3 H2 ⟨.ref C :: us, []⟩ _ _ _ E rm gd J3.env0 bt (by rw [List.append_nil]; exact r1) q2) fun out s4 z4 => ?_))
    match out, z4 with
    | .error er, z4 => exact hx _ σ H2 s3 er s4 J3 z4
    | .ok (.ret v), z4 => exact J3.after z4
  exact thn run fun _ _ y => ClX.unpinE y
/-- x(e, ..), x a place that holds the class -/
def tMakeV (C : Addr) (sp : Sp) (dvs : List V) (E : XK) (n : Nat) (ta : TA) : TE := fun σ H Q => σ[n]? = some (some (.ref C)) ∧ ta σ H fun vs H1 => Make C sp (fun z => z :: (vs ++ dvs)) E H1 Q
theorem pe_gmakeV {f : Addr} {x : Str} {n : Nat} {ds : List Value} {dvs : List V} (M : Mk X.K C f) (F : Gd X.prog X.w X.K X.mg X.base CX k f fd ps sp) (rm : Room (k + 1) X.A) (gd : X.A.guards = some []) (hv : PE X (.Name x apos) (tVar n)) (hb : Binds X.K fd ps ds) (hd : Vals dvs ds) (hx : Passes CX X E) (ha : PA X (e :: es) t)
    (hst : starEach (e :: es) X.env = (false, eval e X.env) :: starEach es X.env := by rfl) (hpl : (backTo pos (starEach es X.env)).any (·.1) = false := by rfl) : PE X (.Call (.Name x apos) (e :: es) [] pos) (tMakeV C sp dvs E n t) := by
  refine ⟨fun pins s σ H Q I z => ?_⟩
  obtain ⟨ec, q⟩ := z
  refine wpAny_Call_Name_kw (thn (hv.run pins s σ H (fun v H' => v = .ref C ∧ t σ H' fun vs H1 => Make C sp (fun z => z :: (vs ++ dvs)) E H1 Q) I ⟨_, ec, rfl, q⟩) fun u s1 z1 => ?_)
  obtain ⟨_, H1, J, ru, rfl, q1⟩ := z1
  obtain rfl : u = Value.ref C := ru
  refine PySem.W.callWith_K (h₀ := X.base) I.ok.mod.kin M.kp (thn (ha.run pos pins s1 σ H1 _ J q1) fun us s2 z2 => ?_) hst hpl
  obtain ⟨vs, H2, J2, rv, q2⟩ := z2
  have all : ∀ y : Addr, Vals (V.ref y :: vs ++ dvs) (Value.ref y :: us ++ ds) := fun y => .cons rfl (rv.append hd)
  have many : ∀ y : Addr, (Value.ref y :: us ++ ds).length = ps.length := fun y => by
    rw [← (all y).length, ← F.len _ _ _ _ (q2 (s2.heap.objs.size + 1) s2.heap.objs.size (J2.hok.fresh (Nat.le_succ _)) (J2.hok.fresh (Nat.le_refl _)) (Nat.ne_of_lt (Nat.lt_succ_self _)))]
    rfl
  exact ⟨J2.kIn, run_gmake (fun y => y :: us ++ ds) (fun y => y :: vs ++ dvs) M F rm gd (fun s y KX => hb s (.ref y :: us) KX (many y)) all hx J2 q2⟩
end
end KG

set_option Elab.async false
set_option linter.all false
set_option maxRecDepth 100000
set_option maxHeartbeats 1000000
/-! KU: methods whose text says super().m(..). -/
namespace KG
open PySem PySem.Spec PySem.Calls PyProof.Rows L2
open PySem.W (ksFn ksEnv)

/-- the scope of a method that says super() -/
structure ScS (N ps : List Str) (sc : Scope) : Prop where
  kind : sc.kind = .function
  co : sc.isCoroutine = false
  gen : sc.isGenerator = false
  pre : N.take ps.length = ps
  nd : ps.Nodup
  par : ∀ x ∈ ps, sc.names.lookup x = some .local
  nocell : ∀ y ∈ sc.names, y.2 ≠ .cell
  free : ∀ y ∈ sc.names, y.2 = .free → y.1 = ("__class__" : Str)
  sup : sc.names.lookup ("super" : Str) = some .globalImplicit
  cl : sc.names.lookup ("__class__" : Str) = some .free

/-- what is written of such a method: where its code lies, its class -/
structure SupF (prog : Program) (K : PySem.W.Frag) (f D : Addr) (cda cc : Addr) (fd : FuncData) : Prop where
  lkF : ∃ oc od osl, K.lookup f = some ⟨oc, od, .func fd, osl⟩
  lkC : ∃ (ccl : Value) (cdd : Option Addr) (vs : Array Value) (ccs : Array (Option Value)) (file : Str) (tf : Tok), K.lookup cda = some ⟨ccl, cdd, .fields vs, ccs⟩ ∧ vs[2]? = some (.str file tf) ∧ ((prog.main.file : Str) == file) = true
  lkCell : ∃ (cl : Value) (cld : Option Addr) (csl : Array (Option Value)), K.lookup cc = some ⟨cl, cld, .cell (some (.ref D)), csl⟩
  cls : ∃ cd, PySem.W.clsIn K D = some cd
  opq : PySem.W.nsIn K cStatics "thirdparty.any" = some none
  nosup : PySem.W.nsIn K mainGlobals "super" = some none
  top : (prog.main.scope.names.lookup ("super" : Str)).isSome = false
structure FunS (prog : Program) (K : PySem.W.Frag) (x qual : Str) (st : Stmt) (f D : Addr) (fd : FuncData) : Prop where
  ex : ∃ (dV kV doc pm ct : Value) (an : Option Addr) (cda cc : Addr), fd = ksFn x qual (defArgs st) (defBody st) (defScope st) dV kV doc pm an (.ref cda) ct cc ∧ PySem.W.codeIn K (.ref cda) qual = true ∧ SupF prog K f D cda cc fd
  kp : PySem.W.keepIn K (.ref f) = true

/-- the frame of such a method -/
def cxS (P : Program) (w : World) (K : PySem.W.Frag) (mg : Str → Option Value) (base : Heap) (N : List Str) (qual : Str) (scope : Scope) (f cda cc : Addr) (A : Around) (outer : List Env) (s : Shared) (H : Hp) (E : XK) : Cx :=
  { prog := P, w := w, K := K, mg := mg, base := base, A := A.deeper (ksEnv qual scope s.heap.objs.size f (.ref cda) cc), N := N, s_0 := s, H_0 := H,
    env := ksEnv qual scope s.heap.objs.size f (.ref cda) cc, outer := outer, stack := ksEnv qual scope s.heap.objs.size f (.ref cda) cc :: outer, ex := [], fn := fun x => !(x == ("__class__" : Str)), calm := true, pn := [],
    xe := fun e s' => wpAny (model P w) (A.deeper (ksEnv qual scope s.heap.objs.size f (.ref cda) cc)) (leaving (ksEnv qual scope s.heap.objs.size f (.ref cda) cc) e) (fun _ s'' => L2.CX P w outer H s E e s'') (fun e' s'' => L2.CX P w outer H s E e' s'') s' }
section
variable {P : Program} {w : World} {K : PySem.W.Frag} {mg : Str → Option Value} {base : Heap} {N ps : List Str} {qual : Str} {sc : Scope} {f cda cc D : Addr} {A : Around} {outer : List Env} {s s1 : Shared} {H : Hp} {E : XK}
theorem takes_S : Takes (cxS P w K mg base N qual sc f cda cc A outer s H E) (fun cls d _ H => E cls d H) := takes_of rfl rfl rfl rfl
theorem pass_S : Passes (L2.CX P w) (cxS P w K mg base N qual sc f cda cc A outer s H E) E := passes_call takes_S fun _ _ _ _ h => h
theorem own_S : PassesOwn (model P w) (cxS P w K mg base N qual sc f cda cc A outer s H E).A (cxS P w K mg base N qual sc f cda cc A outer s H E).env (cxS P w K mg base N qual sc f cda cc A outer s H E).xe := passes_of rfl

theorem paired_get {R : V → Value → Prop} : ∀ {vs : List V} {us : List Value} {i : Nat} {v : V}, Paired R vs us → vs[i]? = some v → ∃ u, us[i]? = some u ∧ R v u
  | _ :: _, _ :: _, 0, _, .cons a _, e => by cases e; exact ⟨_, rfl, a⟩
  | _ :: _, _ :: _, i + 1, _, .cons _ b, e => paired_get (i := i) b e
theorem lk_nd {x : Str} {u : Value} : ∀ {l : List (Str × Value)}, (l.map (·.1)).Nodup → (x, u) ∈ l → l.lookup x = some u
  | (y, v) :: t, nd, h => by
    rcases List.mem_cons.mp h with e | h
    · cases e
      simp [List.lookup]
    · have nd' : y ∉ t.map (·.1) ∧ (t.map (·.1)).Nodup := List.nodup_cons.mp nd
      have ne : x ≠ y := fun z => nd'.1 (z ▸ List.mem_map_of_mem (f := (·.1)) h)
      rw [List.lookup, beq_eq_false_iff_ne.mpr ne]
      exact lk_nd nd'.2 h
theorem lk_mem {k : NameKind} {x : Str} : ∀ {l : List (Str × NameKind)}, l.lookup x = some k → (x, k) ∈ l
  | (y, v) :: t, h => by
    by_cases e : x = y
    · subst e
      simp [List.lookup] at h
      rw [h]
      exact List.mem_cons_self
    · rw [List.lookup, beq_eq_false_iff_ne.mpr e] at h
      exact List.mem_cons_of_mem _ (lk_mem h)
theorem zip_get : ∀ {ps : List Str} {us : List Value} {i : Nat} {x : Str} {u : Value}, ps[i]? = some x → us[i]? = some u → (x, u) ∈ ps.zip us
  | _ :: _, _ :: _, 0, _, _, h, h' => by cases h; cases h'; exact List.mem_cons_self
  | _ :: _, _ :: _, i + 1, _, _, h, h' => List.mem_cons_of_mem _ (zip_get (i := i) h h')

theorem invS_start {us : List Value} {vs : List V} (S : ScS N ps sc) (hd : A.handled = none) (e0 : Env0 P w K mg base A outer s H) (len : vs.length = ps.length) (rv : Vals vs us)
    (hcc : ∃ (cl : Value) (cld : Option Addr) (csl : Array (Option Value)), K.lookup cc = some ⟨cl, cld, .cell (some (.ref D)), csl⟩)
    (ns : s1.heap.Ns s.heap.objs.size fun y => (ps.zip us).reverse.lookup y) (kp : ∀ b o, s.heap.get? b = some o → s1.heap.get? b = some o) (hos : s1.os = s.os) (hg : s1.gens = s.gens) :
    Inv (cxS P w K mg base N qual sc f cda cc A outer s H E) [] (start N vs) H s1 := by
  obtain ⟨cl, cld, csl, hcc⟩ := hcc
  have kb := e0.mod.kin _ _ hcc
  have fc : ∀ {x : Str} {c : Addr}, List.lookup x [(("__class__" : Str), cc)] = some c → x = "__class__" ∧ c = cc := fun {x c} h => by
    by_cases e : x = "__class__"
    · subst e
      simp [List.lookup] at h
      exact ⟨rfl, h.symm⟩
    · rw [List.lookup, beq_eq_false_iff_ne.mpr e] at h
      cases h
  refine ⟨?_, hos, by rw [hg]; exact e0.bare, Un.kept kp, ⟨_, ns, ?_⟩, ?_, e0.hok.fresh (Nat.le_refl _), ?_, (fun _ h => nomatch h), e0.hok.kept kp, ?_⟩
  · exact {
      mod := e0.mod
      kind := S.kind
      glob := rfl
      blt := rfl
      above := Nat.le_refl _
      inj := fun x y c h1 h2 => (fc h1).1.trans (fc h2).1.symm
      has := fun x h => by
        rcases h with h | h
        · exact absurd rfl (S.nocell (x, .cell) (lk_mem h))
        · rw [show x = _ from S.free _ (lk_mem h) rfl]
          exact ⟨cc, by simp [cxS, ksEnv, PySem.W.envX, List.lookup]⟩
      cab := fun x c h1 h2 => by
        rw [(fc h2).1] at h1
        cases h1
      hd := fun _ => hd
      frames := by
        show Option.map _ A.frames = _
        rw [e0.frames]
        rfl
      stk := .inr ⟨rfl, rfl⟩
      exf := fun _ h => nomatch h
      bs := e0.bs
      bsz := e0.bsz
      noex := fun _ _ _ h => nomatch h
      exfs := fun _ h => nomatch h
      funs := e0.funs
      frf := e0.frf }
  · intro i x v hx hs vis
    have hx : N[i]? = some x := hx
    have hv : vs[i]? = some v := by
      unfold L2.start at hs
      by_cases lt : i < vs.length
      · rw [List.getElem?_append_left (by simpa using lt), List.getElem?_map] at hs
        obtain ⟨v', h1, h2⟩ := Option.map_eq_some_iff.mp hs
        cases h2
        exact h1
      · rw [List.getElem?_append_right (by simpa using lt), List.getElem?_replicate] at hs
        split at hs <;> cases hs
    obtain ⟨u, hu, ru⟩ := paired_get rv hv
    have lt : i < ps.length := len ▸ (List.getElem?_eq_some_iff.mp hv).1
    have hp : ps[i]? = some x := by
      rw [← S.pre, List.getElem?_take_of_lt lt]
      exact hx
    have lenU : ps.length ≤ us.length := by rw [← len, rv.length]; exact Nat.le_refl _
    refine ⟨u, ru, .inl ⟨S.par x (List.mem_of_getElem? hp), ?_⟩⟩
    refine lk_nd ?_ (List.mem_reverse.mpr (zip_get hp hu))
    rw [List.map_reverse]
    refine List.pairwise_reverse.mpr ?_
    show ((ps.zip us).map Prod.fst).Pairwise _
    rw [List.map_fst_zip lenU]
    exact S.nd.imp Ne.symm
  · intro x c h
    rw [(fc h).2]
    exact ⟨_, _, kp _ _ (e0.bs _ _ kb).1, rfl⟩
  · intro x c h
    rw [(fc h).2]
    exact (e0.bs _ _ kb).2
  · show (List.map some vs ++ List.replicate (N.length - vs.length) none).length = N.length
    have : ps.length ≤ N.length := by
      rw [← S.pre, List.length_take]
      exact Nat.min_le_right _ _
    simp
    omega

/-- such a method by its body -/
theorem gdS_of {k : Nat} {x : Str} {st : Stmt} {fd : FuncData} {sp : Sp} (F : FunS P K x qual st f D fd) (S : ScS N ps (defScope st)) (len : ∀ vs H Q E, sp vs H Q E → vs.length = ps.length)
    (inner : ∀ (cda cc : Addr) (A : Around) (outer : List Env) (s s1 : Shared) (H : Hp) (vs : List V) (Q : VK) (E : XK),
      Room k (cxS P w K mg base N qual (defScope st) f cda cc A outer s H E).A → (cxS P w K mg base N qual (defScope st) f cda cc A outer s H E).A.guards = some [] → sp vs H Q E →
      (∃ (dV kV doc pm ct : Value) (an : Option Addr), SupF P K f D cda cc (ksFn x qual (defArgs st) (defBody st) (defScope st) dV kV doc pm an (.ref cda) ct cc)) →
      Inv (cxS P w K mg base N qual (defScope st) f cda cc A outer s H E) [] (start N vs) H s1 →
      PySem.wpAt (model P w) (cxS P w K mg base N qual (defScope st) f cda cc A outer s H E).A (.func (defBody st) (cxS P w K mg base N qual (defScope st) f cda cc A outer s H E).env) (execs (defBody st) (cxS P w K mg base N qual (defScope st) f cda cc A outer s H E).env)
        (SP (cxS P w K mg base N qual (defScope st) f cda cc A outer s H E) [] { nx := fun _ H' => Q .non H', rt := Q }) (cxS P w K mg base N qual (defScope st) f cda cc A outer s H E).xe s1) :
    Gd P w K mg base (L2.CX P w) (k + 1) f fd ps sp := by
  obtain ⟨dV, kV, doc, pm, ct, an, cda, cc, rfl, code, SF⟩ := F.ex
  refine ⟨len, fun A outer s H args us vs Q E rm gd e0 bt rv q0 => ?_⟩
  have llen := len _ _ _ _ q0
  have kin : K.In s.heap := e0.mod.kin.keeps fun b o e => (e0.bs b o e).1
  have nolim : s.heap.NoLimit := e0.mod.nolimit.keeps fun b o e => (e0.bs b o e).1
  obtain ⟨oc, od, osl, lkF⟩ := SF.lkF
  refine ks_codeAny_call_defAt (body := defBody st) (binds := ps.zip us) rm.depth (kin _ _ lkF) rfl nolim (PySem.W.codeRec_of kin code) rfl bt S.nocell (fun y hy => S.par _ (List.of_mem_zip hy).1) (fun h1 ns1 kp1 => ?_) S.co S.gen S.kind
  have I := invS_start (E := E) (cda := cda) (cc := cc) (f := f) (qual := qual) (s1 := ⟨h1, s.gens, s.drawn, s.toks + (ps.zip us).length, s.os⟩) S rm.hd e0 llen rv SF.lkCell ns1 kp1 rfl rfl
  refine ks_wpAt_mono (inner cda cc A outer s _ H vs Q E (rm.deeper _) gd q0 ⟨dV, kV, doc, pm, ct, an, SF⟩ I) (fun fl s' hs => ?_) fun e s' hs => hs
  have done : ∀ {σ' : L2.St} {H' : Hp} {v : V} {u : Value}, Inv (cxS P w K mg base N qual (defScope st) f cda cc A outer s H E) [] σ' H' s' → RelV v u → Q v H' → CE outer P w H s Q u s' :=
    fun {σ' H' v u} J r q => ⟨v, H', J.os, J.bare, J.base, J.hok, r, q⟩
  cases fl with
  | ret u =>
    obtain ⟨v, σ', H', J, r, q⟩ := hs
    exact done J r q
  | next =>
    obtain ⟨σ', H', J, q⟩ := hs
    exact done (v := V.non) (u := Value.none) J rfl q
  | brk => exact hs.elim fun _ h => h.elim fun _ h => False.elim h.2
  | cont => exact hs.elim fun _ h => h.elim fun _ h => False.elim h.2

/-- where super() of an object of class C, asked in a method of class D, finds m -/
structure UpAt (K : PySem.W.Frag) (C D : Addr) (m : Str) (g : Addr) : Prop where
  isub : PySem.W.mroIn K C (.ref D) = some true
  up : PySem.W.ks_superIn K C D m = some (some (.ref g))
  fn : PySem.W.isFn K (.ref g) = true
  fi : PySem.W.fnIn K g = true

/-- super().m, up to the bound method -/
theorem sup_get {x : Str} {st : Stmt} {dV kV doc pm ct : Value} {an : Option Addr} {s0 : Shared} {H0 : Hp} {pins : List (Addr × Obj)} {σ : L2.St} {H1 : Hp} {s : Shared} {C dx a g : Addr} {fs : List (Str × V)} {m : Str} {p0 p1 p2 p3 : Pos} {es : List Expr} {pl : Sem Bool} {EX : Value → Shared → Prop} {body : List Stmt} {R : Value → Shared → Prop}
    (S : ScS N ps sc) (SF : SupF P K f D cda cc (ksFn x qual (defArgs st) (defBody st) sc dV kV doc pm an (.ref cda) ct cc)) (hpar : ((defArgs st).posonlyargs ++ (defArgs st).args).head?.map (·.arg) = some ("self" : Str))
    (hN : N[0]? = some ("self" : Str)) (hself : sc.names.lookup ("self" : Str) = some .local) (hm : (m == ("__class__" : Str)) = false)
    (hev : eval (.Call (.Attribute (.Call (.Name "super" p0) [] [] p1) m p2) es [] p3) (cxS P w K mg base N qual sc f cda cc A outer s0 H0 E).env = (do
      let ov ← attributeBase (.Call (.Name "super" p0) [] [] p1) m (cxS P w K mg base N qual sc f cda cc A outer s0 H0 E).env (eval (.Call (.Name "super" p0) [] [] p1) (cxS P w K mg base N qual sc f cda cc A outer s0 H0 E).env)
      standAt p2.atName
      let (fv, first) ← holding [ov] (getMethod ov m pl)
      callWith p3 fv first (backTo p3 (starEach es (cxS P w K mg base N qual sc f cda cc A outer s0 H0 E).env)) []))
    (I : Inv (cxS P w K mg base N qual sc f cda cc A outer s0 H0 E) pins σ H1 s) (hσ : σ[0]? = some (some (.ref a))) (ha : H1 a = some (.ins C dx fs)) (U : UpAt K C D m g)
    (nx : ∀ (q : Addr) (s2 : Shared), base.get? q = none → Inv (cxS P w K mg base N qual sc f cda cc A outer s0 H0 E) ((q, PySem.W.methodObj (.ref g) (.ref a)) :: pins) σ H1 s2 →
      wpAny (model P w) (cxS P w K mg base N qual sc f cda cc A outer s0 H0 E).A (callWith p3 (.ref q) [] (backTo p3 (starEach es (cxS P w K mg base N qual sc f cda cc A outer s0 H0 E).env)) []) R EX s2) :
    PySem.wpAt (model P w) (cxS P w K mg base N qual sc f cda cc A outer s0 H0 E).A (.func body (cxS P w K mg base N qual sc f cda cc A outer s0 H0 E).env)
      (eval (.Call (.Attribute (.Call (.Name "super" p0) [] [] p1) m p2) es [] p3) (cxS P w K mg base N qual sc f cda cc A outer s0 H0 E).env) R EX s := by
  obtain ⟨oc, od, osl, lkF⟩ := SF.lkF
  obtain ⟨ccl, cdd, vs, ccs, file, tf, lkC, hvs, hfile⟩ := SF.lkC
  obtain ⟨cl, cld, csl, lkCell⟩ := SF.lkCell
  obtain ⟨cd, hcd⟩ := SF.cls
  have kin : K.In s.heap := I.kIn
  have mod := I.mod
  obtain ⟨mb, nsb0, mbb⟩ := mod.blt
  have nsm := mod.glob.keeps I.bk
  have nsb := nsb0.keeps I.bk
  obtain ⟨ar, har, harg⟩ : ∃ ar, ((defArgs st).posonlyargs ++ (defArgs st).args).head? = some ar ∧ ar.arg = ("self" : Str) := by
    cases z : ((defArgs st).posonlyargs ++ (defArgs st).args).head? with
    | none => rw [z] at hpar; cases hpar
    | some ar => rw [z] at hpar; exact ⟨ar, rfl, Option.some.inj hpar⟩
  obtain ⟨oD, hD, hDd⟩ : ∃ oD, K.lookup D = some oD ∧ oD.data = .cls cd := by
    unfold PySem.W.clsIn at hcd
    split at hcd
    · rename_i e
      cases hcd
      exact ⟨_, e, rfl⟩
    · cases hcd
  obtain ⟨mA, O, _⟩ := ins_get I.hok ha
  obtain ⟨odx, O, _⟩ := O.look
  refine ks_wpAt_MethodCall (ks_wpAt_super_base S.sup S.cl hm rfl (kin _ _ lkF) rfl har rfl (kin _ _ lkC) rfl hvs hfile SF.top ?_) hev
  refine PySem.W.ks_loadName_global S.kind S.sup (loadGlobal_builtin nsm (PySem.W.mg_none_of kin nsm SF.nosup) nsb ((mbb _ (by decide +kernel)).trans (by decide +kernel)) ⟨rfl, ?_⟩)
  refine wpAny_loadName_free S.kind S.cl rfl ⟨_, kin _ _ lkCell, rfl⟩ ?_
  rw [harg]
  obtain ⟨mm, nsL, hl⟩ := I.loc
  obtain ⟨u, ru, lk⟩ := hl 0 "self" (.ref a) hN hσ (.inl hself)
  obtain rfl : u = Value.ref a := ru
  have lk : mm "self" = some (.ref a) := by
    rcases lk with lk | ⟨lk, _⟩
    · exact lk.2
    · exfalso
      have hs : Env.kindOf (cxS P w K mg base N qual sc f cda cc A outer s0 H0 E).env "self" = some .local := hself
      rw [hs] at lk
      rcases lk with lk | lk <;> cases lk
  refine wpAny_loadName_local S.kind hself nsL lk ?_
  have hD1 := kin _ _ hD
  refine ks_wpAny_isType_cls hD1 hDd ⟨rfl, ?_⟩
  refine ks_wpAny_call_super hD1 hDd O.at_ O.cls (fun c z => by have := O.no; unfold PySem.W.notCls at this; rw [z] at this; cases this) (PySem.W.looks_mroIn kin U.isub) (fun h2 eso kp2 => ?_)
  have J2 := I.kept (t' := s.toks) kp2
  have kin2 : K.In h2 := kin.keeps kp2
  have sup := U.up
  unfold PySem.W.ks_superIn at sup
  obtain ⟨cdC, hcl, sup⟩ := Option.bind_eq_some_iff.mp sup
  obtain ⟨og, hog, hgc⟩ : ∃ og, K.lookup g = some og ∧ og.cls = .type "function" := by
    have hg : (Option.map (fun x => Obj.cls x) (K.lookup g) == some (.type "function")) = true := U.fn
    cases z : K.lookup g with
    | none => rw [z] at hg; cases hg
    | some og =>
      rw [z] at hg
      exact ⟨og, rfl, by simpa using hg⟩
  have nC : a ≠ C := fun z => by
    have hC : ∃ o, K.lookup C = some o := by
      unfold PySem.W.clsIn at hcl
      split at hcl
      · exact ⟨_, by assumption⟩
      · cases hcl
    obtain ⟨o, hC⟩ := hC
    have := (I.bs _ _ (I.ok.mod.kin _ _ hC)).2
    rw [← z, ha] at this
    cases this
  refine ks_wpAny_getMethod_super eso (PySem.W.looks_opaque kin2 SF.opq) (l₀ := cdC.mro) (fun A Q E s k q => wpAny_bind ((PySem.W.looks_clsIn kin2 hcl) A _ E s k (wpAny_pure q))) rfl kin2 sup (kin2 _ _ hog) hgc nC hm ?_
  exact nx _ _ (ClX.base_none J2 (Nat.le_refl _)) (ClX.met_new (g := g) (C := a) J2)

section
variable {x : Str} {st : Stmt} {dV kV doc pm ct : Value} {an : Option Addr} {s0 : Shared} {H0 : Hp} {pins : List (Addr × Obj)} {σ : L2.St} {H1 : Hp} {s : Shared} {C dx a g : Addr} {fs : List (Str × V)} {m : Str} {p0 p1 p2 p3 : Pos} {es : List Expr} {pl : Sem Bool} {body : List Stmt} {k : Nat} {fdg : FuncData} {psg : List Str} {sp : Sp} {Q : VK} {e : Expr} {t : TA}
/-- super().m() -/
theorem sup_run0 
    (S : ScS N ps sc) (SF : SupF P K f D cda cc (ksFn x qual (defArgs st) (defBody st) sc dV kV doc pm an (.ref cda) ct cc)) (hpar : ((defArgs st).posonlyargs ++ (defArgs st).args).head?.map (·.arg) = some ("self" : Str))
    (hN : N[0]? = some ("self" : Str)) (hself : sc.names.lookup ("self" : Str) = some .local) (hm : (m == ("__class__" : Str)) = false)
    (I : Inv (cxS P w K mg base N qual sc f cda cc A outer s0 H0 E) pins σ H1 s) (hσ : σ[0]? = some (some (.ref a))) (ha : H1 a = some (.ins C dx fs)) (U : UpAt K C D m g)
    (G : Gd P w K mg base (L2.CX P w) k g fdg psg sp) (hb : Binds K fdg psg []) (rm : Room k (cxS P w K mg base N qual sc f cda cc A outer s0 H0 E).A) (gd : (cxS P w K mg base N qual sc f cda cc A outer s0 H0 E).A.guards = some [])
    (q : sp [.ref a] H1 Q E)
    (hev : eval (.Call (.Attribute (.Call (.Name "super" p0) [] [] p1) m p2) [] [] p3) (cxS P w K mg base N qual sc f cda cc A outer s0 H0 E).env = (do
      let ov ← attributeBase (.Call (.Name "super" p0) [] [] p1) m (cxS P w K mg base N qual sc f cda cc A outer s0 H0 E).env (eval (.Call (.Name "super" p0) [] [] p1) (cxS P w K mg base N qual sc f cda cc A outer s0 H0 E).env)
      standAt p2.atName
      let (fv, first) ← holding [ov] (getMethod ov m pl)
      callWith p3 fv first (backTo p3 (starEach [] (cxS P w K mg base N qual sc f cda cc A outer s0 H0 E).env)) []) := by rfl) :
    PySem.wpAt (model P w) (cxS P w K mg base N qual sc f cda cc A outer s0 H0 E).A (.func body (cxS P w K mg base N qual sc f cda cc A outer s0 H0 E).env)
      (eval (.Call (.Attribute (.Call (.Name "super" p0) [] [] p1) m p2) [] [] p3) (cxS P w K mg base N qual sc f cda cc A outer s0 H0 E).env) (EP (cxS P w K mg base N qual sc f cda cc A outer s0 H0 E) pins σ Q) (cxS P w K mg base N qual sc f cda cc A outer s0 H0 E).xe s := by
  refine sup_get S SF hpar hN hself hm hev I hσ ha U fun q2 s2 bn J => PySem.W.callWith_M0 ⟨ClX.pin_at J, J.kIn⟩ U.fi ?_
  have r1 : Vals [V.ref a] [Value.ref a] := .cons rfl .nil
  have bt := bind_pos (dvs := []) (vs := [V.ref a]) G hb .nil J.kIn r1 q
  refine thn (Q := EP _ ((q2, PySem.W.methodObj (.ref g) (.ref a)) :: pins) σ Q) (wpAny_call (PySem.W.method_call (ClX.pin_at J) (codeAny_mono (G.go _ (ksEnv qual sc s0.heap.objs.size f (.ref cda) cc :: outer) s2 H1 ⟨[.ref a], []⟩ _ _ Q E rm gd J.env0 bt r1 q) fun out s4 z4 => ?_))) fun _ _ y => ClX.unpinE y
  match out, z4 with
  | .error er, z4 => exact pass_S _ σ H1 s2 er s4 J z4
  | .ok (.ret v), z4 => exact J.after z4
/-- super().m(e, ..) -/
theorem sup_run
    (S : ScS N ps sc) (SF : SupF P K f D cda cc (ksFn x qual (defArgs st) (defBody st) sc dV kV doc pm an (.ref cda) ct cc)) (hpar : ((defArgs st).posonlyargs ++ (defArgs st).args).head?.map (·.arg) = some ("self" : Str))
    (hN : N[0]? = some ("self" : Str)) (hself : sc.names.lookup ("self" : Str) = some .local) (hm : (m == ("__class__" : Str)) = false)
    (I : Inv (cxS P w K mg base N qual sc f cda cc A outer s0 H0 E) pins σ H1 s) (hσ : σ[0]? = some (some (.ref a))) (ha : H1 a = some (.ins C dx fs)) (U : UpAt K C D m g)
    (G : Gd P w K mg base (L2.CX P w) k g fdg psg sp) (hb : Binds K fdg psg []) (rm : Room k (cxS P w K mg base N qual sc f cda cc A outer s0 H0 E).A) (gd : (cxS P w K mg base N qual sc f cda cc A outer s0 H0 E).A.guards = some [])
    (hA : PA (cxS P w K mg base N qual sc f cda cc A outer s0 H0 E) (e :: es) t) (q : t σ H1 fun vs H2 => sp (.ref a :: vs) H2 Q E)
    (hst : starEach (e :: es) (cxS P w K mg base N qual sc f cda cc A outer s0 H0 E).env = (false, eval e (cxS P w K mg base N qual sc f cda cc A outer s0 H0 E).env) :: starEach es (cxS P w K mg base N qual sc f cda cc A outer s0 H0 E).env := by rfl)
    (hpl : (backTo p3 (starEach es (cxS P w K mg base N qual sc f cda cc A outer s0 H0 E).env)).any (·.1) = false := by rfl)
    (hev : eval (.Call (.Attribute (.Call (.Name "super" p0) [] [] p1) m p2) (e :: es) [] p3) (cxS P w K mg base N qual sc f cda cc A outer s0 H0 E).env = (do
      let ov ← attributeBase (.Call (.Name "super" p0) [] [] p1) m (cxS P w K mg base N qual sc f cda cc A outer s0 H0 E).env (eval (.Call (.Name "super" p0) [] [] p1) (cxS P w K mg base N qual sc f cda cc A outer s0 H0 E).env)
      standAt p2.atName
      let (fv, first) ← holding [ov] (getMethod ov m pl)
      callWith p3 fv first (backTo p3 (starEach (e :: es) (cxS P w K mg base N qual sc f cda cc A outer s0 H0 E).env)) []) := by rfl) :
    PySem.wpAt (model P w) (cxS P w K mg base N qual sc f cda cc A outer s0 H0 E).A (.func body (cxS P w K mg base N qual sc f cda cc A outer s0 H0 E).env)
      (eval (.Call (.Attribute (.Call (.Name "super" p0) [] [] p1) m p2) (e :: es) [] p3) (cxS P w K mg base N qual sc f cda cc A outer s0 H0 E).env) (EP (cxS P w K mg base N qual sc f cda cc A outer s0 H0 E) pins σ Q) (cxS P w K mg base N qual sc f cda cc A outer s0 H0 E).xe s := by
  refine sup_get S SF hpar hN hself hm hev I hσ ha U fun q2 s2 bn J => ClX.callwith_cm J bn U.fi (thn (hA.run p3 _ s2 σ H1 _ J q) fun us s3 z3 => ?_) hst hpl
  obtain ⟨vs, H2, J3, rv, q2'⟩ := z3
  have r1 : Vals (V.ref a :: vs) (Value.ref a :: us) := .cons rfl rv
  have bt := bind_pos (dvs := []) (vs := V.ref a :: vs) G hb .nil J3.kIn r1 (by rw [List.append_nil]; exact q2')
  refine ⟨⟨ClX.pin_at J3, J3.kIn⟩, ?_⟩
  refine thn (Q := EP _ ((q2, PySem.W.methodObj (.ref g) (.ref a)) :: pins) σ Q) (wpAny_call (PySem.W.method_call (ClX.pin_at J3) (codeAny_mono (G.go _ (ksEnv qual sc s0.heap.objs.size f (.ref cda) cc :: outer) s3 H2 ⟨.ref a :: us, []⟩ _ _ Q E rm gd J3.env0 bt (by rw [List.append_nil]; exact r1) q2') fun out s4 z4 => ?_))) fun _ _ y => ClX.unpinE y
  match out, z4 with
  | .error er, z4 => exact pass_S _ σ H2 s3 er s4 J3 z4
  | .ok (.ret v), z4 => exact J3.after z4
end
end
end KG

set_option Elab.async false
set_option linter.all false
set_option maxRecDepth 100000
set_option maxHeartbeats 4000000
/-! KE2: own errors over ValueError whose __init__ says super().__init__(e) and then stores any number of fields: walked as a def. -/
namespace KG
open PySem PySem.Spec PySem.Calls PyProof.Rows L2
open PySem.W (ksFn ksEnv)

section
variable {P : Program} {w : World} {K : PySem.W.Frag} {mg : Str → Option Value} {base : Heap} {N ps : List Str} {qual : Str} {sc : Scope} {f cda cc D : Addr} {A : Around} {outer : List Env}
variable {x : Str} {st : Stmt} {dV kV doc pm ct : Value} {an : Option Addr} {s0 : Shared} {H0 : Hp} {E : XK} {pins : List (Addr × Obj)} {σ : L2.St} {H1 : Hp} {s : Shared} {C a : Addr} {p0 p1 p2 p3 : Pos} {es : List Expr} {pl : Sem Bool} {body : List Stmt} {Q : VK} {e : Expr} {t : TA}
/-- super().__init__(e, ..) of an error that is being made: nothing of it is told -/
theorem sup_err
    (S : ScS N ps sc) (SF : SupF P K f D cda cc (ksFn x qual (defArgs st) (defBody st) sc dV kV doc pm an (.ref cda) ct cc)) (hpar : ((defArgs st).posonlyargs ++ (defArgs st).args).head?.map (·.arg) = some ("self" : Str))
    (hN : N[0]? = some ("self" : Str)) (hself : sc.names.lookup ("self" : Str) = some .local)
    (I : Inv (cxS P w K mg base N qual sc f cda cc A outer s0 H0 E) pins σ H1 s) (hσ : σ[0]? = some (some (.ref a))) (ha : H1 a = some (exo a C none)) (T : OexC K C)
    (isub : PySem.W.mroIn K C (.ref D) = some true) (up : PySem.W.ks_superIn K C D "__init__" = some (some (.builtin "ValueError.__init__"))) (sub : PySem.W.subIn K (.ref C) (.type "ValueError") = some true)
    (hA : PA (cxS P w K mg base N qual sc f cda cc A outer s0 H0 E) (e :: es) t) (q : t σ H1 fun vs H2 => vs.length ≤ 1000 ∧ H2 a = some (exo a C none) ∧ Q .non H2)
    (hst : starEach (e :: es) (cxS P w K mg base N qual sc f cda cc A outer s0 H0 E).env = (false, eval e (cxS P w K mg base N qual sc f cda cc A outer s0 H0 E).env) :: starEach es (cxS P w K mg base N qual sc f cda cc A outer s0 H0 E).env := by rfl)
    (hpl : (backTo p3 (starEach es (cxS P w K mg base N qual sc f cda cc A outer s0 H0 E).env)).any (·.1) = false := by rfl)
    (hev : eval (.Call (.Attribute (.Call (.Name "super" p0) [] [] p1) "__init__" p2) (e :: es) [] p3) (cxS P w K mg base N qual sc f cda cc A outer s0 H0 E).env = (do
      let ov ← attributeBase (.Call (.Name "super" p0) [] [] p1) "__init__" (cxS P w K mg base N qual sc f cda cc A outer s0 H0 E).env (eval (.Call (.Name "super" p0) [] [] p1) (cxS P w K mg base N qual sc f cda cc A outer s0 H0 E).env)
      standAt p2.atName
      let (fv, first) ← holding [ov] (getMethod ov "__init__" pl)
      callWith p3 fv first (backTo p3 (starEach (e :: es) (cxS P w K mg base N qual sc f cda cc A outer s0 H0 E).env)) []) := by rfl) :
    PySem.wpAt (model P w) (cxS P w K mg base N qual sc f cda cc A outer s0 H0 E).A (.func body (cxS P w K mg base N qual sc f cda cc A outer s0 H0 E).env)
      (eval (.Call (.Attribute (.Call (.Name "super" p0) [] [] p1) "__init__" p2) (e :: es) [] p3) (cxS P w K mg base N qual sc f cda cc A outer s0 H0 E).env) (EP (cxS P w K mg base N qual sc f cda cc A outer s0 H0 E) pins σ Q) (cxS P w K mg base N qual sc f cda cc A outer s0 H0 E).xe s := by
  obtain ⟨oc, od, osl, lkF⟩ := SF.lkF
  obtain ⟨ccl, cdd, vs, ccs, file, tf, lkC, hvs, hfile⟩ := SF.lkC
  obtain ⟨cl, cld, csl, lkCell⟩ := SF.lkCell
  obtain ⟨cd, hcd⟩ := SF.cls
  have kin : K.In s.heap := I.kIn
  obtain ⟨mb, nsb0, mbb⟩ := I.mod.blt
  have nsm := I.mod.glob.keeps I.bk
  have nsb := nsb0.keeps I.bk
  obtain ⟨ar, har, harg⟩ : ∃ ar, ((defArgs st).posonlyargs ++ (defArgs st).args).head? = some ar ∧ ar.arg = ("self" : Str) := by
    cases z : ((defArgs st).posonlyargs ++ (defArgs st).args).head? with
    | none => rw [z] at hpar; cases hpar
    | some ar => rw [z] at hpar; exact ⟨ar, rfl, Option.some.inj hpar⟩
  obtain ⟨oD, hD, hDd⟩ : ∃ oD, K.lookup D = some oD ∧ oD.data = .cls cd := by
    unfold PySem.W.clsIn at hcd
    split at hcd
    · rename_i e
      cases hcd
      exact ⟨_, e, rfl⟩
    · cases hcd
  obtain ⟨t1, ho⟩ := exo_at I.hok ha
  obtain ⟨nm, q0, Nc, bs, bm, sn, sb, ab, col, dd, k0, k1, k2, k3, k5, hC, hbm⟩ := T.cls
  refine ks_wpAt_MethodCall (ks_wpAt_super_base S.sup S.cl (by decide) rfl (kin _ _ lkF) rfl har rfl (kin _ _ lkC) rfl hvs hfile SF.top ?_) hev
  refine PySem.W.ks_loadName_global S.kind S.sup (loadGlobal_builtin nsm (PySem.W.mg_none_of kin nsm SF.nosup) nsb ((mbb _ (by decide +kernel)).trans (by decide +kernel)) ⟨rfl, ?_⟩)
  refine wpAny_loadName_free S.kind S.cl rfl ⟨_, kin _ _ lkCell, rfl⟩ ?_
  rw [harg]
  obtain ⟨mm, nsL, hl⟩ := I.loc
  obtain ⟨u, ru, lk⟩ := hl 0 "self" (.ref a) hN hσ (.inl hself)
  obtain rfl : u = Value.ref a := ru
  have lk : mm "self" = some (.ref a) := by
    rcases lk with lk | ⟨lk, _⟩
    · exact lk.2
    · exfalso
      have hs : Env.kindOf (cxS P w K mg base N qual sc f cda cc A outer s0 H0 E).env "self" = some .local := hself
      rw [hs] at lk
      rcases lk with lk | lk <;> cases lk
  refine wpAny_loadName_local S.kind hself nsL lk ?_
  have hD1 := kin _ _ hD
  refine ks_wpAny_isType_cls hD1 hDd ⟨rfl, ?_⟩
  refine ks_wpAny_call_super hD1 hDd ho rfl (fun c z => by cases z) (PySem.W.looks_mroIn kin isub) (fun h2 eso kp2 => ?_)
  have J2 := I.kept (t' := s.toks) kp2
  have kin2 : K.In h2 := kin.keeps kp2
  have ho2 := kp2 _ _ ho
  unfold PySem.W.ks_superIn at up
  obtain ⟨cdC, hcl, up⟩ := Option.bind_eq_some_iff.mp up
  have nC : a ≠ C := fun z => by
    have := (I.bs _ _ (I.ok.mod.kin _ _ hC)).2
    rw [← z, ha] at this
    cases this
  have inst2 : PySem.W.InstAt h2 a { cls := .ref C, data := .fields #[.ref t1, .none, .none, .none, .bool false, .none] } C none := ⟨ho2, rfl, rfl, trivial⟩
  refine PySem.W.kxs_getMethod PySem.W.kxs_ValueError eso (PySem.W.looks_opaque kin2 SF.opq) (l₀ := cdC.mro) (fun A Q E s k q => wpAny_bind ((PySem.W.looks_clsIn kin2 hcl) A _ E s k (wpAny_pure q))) rfl kin2 up (inst2.type.andThen (PySem.W.looks_subIn kin2 sub)) nC (by decide) ?_
  have J3 := ClX.pin_new (t' := s.toks + 1) (o := PySem.W.kxs_mw "ValueError.__init__" a) J2 (fun _ _ z => Heap.get?_push_of_some _ z) (Nat.le_refl _) (Heap.get?_push_size _ rfl) (fun v z => nomatch z)
  have run := hA.run p3 _ _ σ H1 _ J3 q
  rw [hst] at run ⊢
  refine PySem.W.kxs_callWith (i := "ValueError.__init__") (x := a) (by show (false || (backTo p3 (starEach es _)).any (·.1)) = false; rw [hpl]; rfl) (evalArgs_plain (thn run fun us s3 z3 => ?_))
  obtain ⟨vs3, H3, J, rv, hlen, ea, q3⟩ := z3
  have hu := ClX.pin_at J
  refine ⟨hu, ?_⟩
  have ul : us.length ≤ sizeLine := by
    rw [← Paired.length rv, sizeLine_eq]
    omega
  obtain ⟨t3, he3⟩ := exo_at J.hok ea
  have hC3 := J.kIn _ _ hC
  obtain ⟨hp, g, dd', tk, os⟩ := s3
  refine wpAny_call (codeAny_of_tree ?_)
  show wpAny _ (Around.in1 _) (callAny (.ref h2.objs.size) ⟨us, []⟩) _ _ _
  simp only [callAny]
  refine wpAny_bind (wpAny_load hu ?_)
  simp only [PySem.W.kxs_mw, show (Value.type "method-wrapper" == Value.type "method" || Value.type "method-wrapper" == Value.type "builtin_function_or_method" || Value.type "method-wrapper" == Value.type "method-wrapper") = true by decide, if_true]
  refine PySem.W.KFB.if_so (by decide) ?_
  refine wpAny_bind (PySem.W.check_bound_init PySem.F.excBase_ValueError.toExcCallFacts hC3 he3 rfl ?_)
  refine wpAny_bind (wpAny_pure (wpAny_pure ?_))
  refine ⟨plainId_quiet PySem.F.excBase_ValueError.init.plain _, codeAny_builtin PySem.F.excBase_ValueError.initEntry ?_⟩
  refine PySem.W.exc_init_tree (cls := .ref C) (t0 := t3) (dv := none) (c2 := .none) (c3 := .none) (b4 := .bool false) he3 ul fun h4 kp4 he4 _ => ?_
  have W := J.write (t' := tk) (x := a) (e := a) (o := exo a C none) (by rw [ea]; exact True.intro) (.inl rfl) kp4 ⟨_, he4⟩ (exo_ok he4)
  have eu : upd H3 a (exo a C none) = H3 := by
    funext b
    by_cases hb : b = a
    · rw [hb, upd_same, ea]
    · rw [upd_ne hb]
  rw [eu] at W
  exact ⟨.non, H3, ClX.unpin W, rfl, q3⟩
end

section
variable {X : Cx} {CX : CXT} {k : Nat} {x : Str} {C fI : Addr} {fd : FuncData} {ps : List Str} {sp : Sp} {ds : List Value} {dvs : List V} {e : Expr} {es : List Expr} {ta : TA} {p pos : Pos}
/-- C(e, ..) of an own error whose __init__ is told by a Gd -/
theorem pmk_own (T : OexC X.K C) (iC : PySem.W.findIn X.K (.ref C) "__init__" = some (some (.ref fI))) (tI : PySem.W.typeIn X.K (.ref fI) = some (.type "function"))
    (G : Gd X.prog X.w X.K X.mg X.base CX k fI fd ps sp) (rm : Room (k + 1) X.A) (gd : X.A.guards = some []) (hb : Binds X.K fd ps ds) (hd : Vals dvs ds) (hx : Passes CX X (fun _ _ _ => False)) (hg : Gl X x) (hm : X.mg x = some (.ref C)) (ha : PA X (e :: es) ta)
    (hdb : (x == ("__debug__" : Str)) = false := by decide) (he : starEach (e :: es) X.env = (false, eval e X.env) :: starEach es X.env := by rfl) (hpl : (backTo pos (starEach es X.env)).any (·.1) = false := by rfl) :
    PMk X (.Call (.Name x p) (e :: es) [] pos) (tMkO C sp dvs ta) := by
  intro pins s σ H Q I h
  have ⟨nm, q, N, bs, bm, sn, sub, ab, col, dd, k0, k1, k2, k3, k5, hC, hbm⟩ := T.cls
  refine wpAny_Call_Name_kw (ld_glob I hg hm ?_ hdb)
  refine PySem.W.callWith_K (h₀ := X.base) I.ok.mod.kin T.kC (thn (ha.run pos pins s σ H _ I h) fun us s1 ⟨vs, H1, I1, r1, hz, q1⟩ => ⟨I1.kIn, ?_⟩) he hpl
  show wpAny _ _ (call (.ref C) us) _ _ _
  have nw : H1 (s1.heap.objs.size + 1) = none := I1.hok.fresh (Nat.le_succ _)
  have hq := q1 _ nw
  have us' : us.length ≤ sizeLine := by
    rw [← Paired.length r1, sizeLine_eq]
    omega
  obtain ⟨hp, g, dr, tk, os⟩ := s1
  have keep : ∀ b o, hp.get? b = some o → ((hp.push (PySem.W.kdv_tup us)).push (PySem.HandSPX.excO C hp.objs.size)).get? b = some o := fun b o z => Heap.get?_push_of_some _ (Heap.get?_push_of_some _ z)
  have I2 : Inv X pins σ (upd H1 (hp.objs.size + 1) (exo (hp.objs.size + 1) C none)) ⟨(hp.push (PySem.W.kdv_tup us)).push (PySem.HandSPX.excO C hp.objs.size), g, dr, tk, os⟩ :=
    I1.laid (t' := tk) (a := hp.objs.size + 1) (o := exo (hp.objs.size + 1) C none) keep (Nat.le_succ _) (exo_ok (t1 := hp.objs.size) (by heap_get))
  have r2 : Vals (V.ref (hp.objs.size + 1) :: vs) (Value.ref (hp.objs.size + 1) :: us) := .cons rfl r1
  have bt := bind_pos (dvs := dvs) (vs := V.ref (hp.objs.size + 1) :: vs) G hb hd I2.kIn r2 hq
  refine wpAny_call (PySem.HandSPX.call_own F.excBase_ValueError (fun Y => PySem.HandSPX.refsVE_contains Y bm hbm) (I1.kIn _ _ hC) (PySem.W.looks_findIn I1.kIn iC) (fun self => PySem.W.bind_fn I1.kIn self tI) us'
    (codeAny_mono (G.go _ X.stack _ _ ⟨Value.ref (hp.objs.size + 1) :: us, []⟩ _ _ _ (fun _ _ _ => False) (rm.make C us []) gd (I2.env0.make C us []) bt (r2.append hd) hq) fun out s' z => ?_))
  match out, z with
  | .error er, z => exact hx pins σ _ _ er s' I2 z
  | .ok (.ret u), z =>
    obtain ⟨v, H2, os2, bare2, un2, hok2, rv, ev, d, fs, ea, ed, hd1, q2⟩ := z
    subst ev
    obtain ⟨h2, g2, d2, t2, os'⟩ := s'
    exact ⟨rv, mk_end (raises_own T.exC T.tyC) I1 (Nat.le_succ _) keep un2 hok2 os2 bare2 ea ed hd1 q2⟩
  | .ok .next, z => exact False.elim z
  | .ok .brk, z => exact False.elim z
  | .ok .cont, z => exact False.elim z
end
end KG

set_option Elab.async false
set_option linter.all false
set_option maxRecDepth 100000
set_option maxHeartbeats 1000000
/-! KZ2: not in a tuple of texts, asked of any data or of any dict. -/
namespace KG
open PySem PySem.Spec PySem.Calls PyProof.Rows L2 SeqAt
section
variable {X : Cx}
def rNotInC (K : PySem.W.Frag) : R2 := fun x y H Q => rNotInB K x y H Q ∨ ∃ (p a : Addr) (zs : List Str) (kvs : List (Key × V)), y = .ref p ∧ x = .ref a ∧ H a = some (.dK kvs) ∧ KTup K p (zs.map V.str) ∧ Q (.bl true) H
theorem op_notInC {k : Nat} (rm : Room k X.A) : OpR X (compareOp .NotIn) (rNotInC X.K) := by
  intro pins s σ H x y v u Q I rx ry h
  rcases h with h | ⟨p, a, zs, kvs, rfl, rfl, ha, kt, q⟩
  · exact op_notInB rm pins s σ H x y v u Q I rx ry h
  · obtain ⟨o, its, n, lk, hc, hdt, _, rv⟩ := kt
    obtain rfl : u = Value.ref p := ry
    obtain rfl : v = Value.ref a := rx
    obtain ⟨_, _, vs, _, ob, es, ep, e, c⟩ := I.hok a _ ha
    have room := rm.units
    obtain ⟨oc, od, odt, osl⟩ := ob
    obtain ⟨c0, c2, c3⟩ := c
    have c1 := c0.1
    dsimp only at c1 c2
    subst c1 c2
    refine SeqAt.notIn_tupleAt (fun _ => false) ⟨_, I.kIn _ _ lk, hc, _, hdt⟩ (fun y hy => ?_) ⟨.bl _, H, I, rfl, ?_⟩
    · obtain ⟨z, t, rfl⟩ := strs_mem rv y (by simpa using hy)
      exact eqAt_str_dict z t e (by show X.A.units + 1 < cLine; omega)
    · have e1 : (its.any fun _ => false) = false := by
        rw [← Array.any_toList]
        exact List.any_eq_false.mpr fun _ _ => Bool.false_ne_true
      rw [e1]
      exact q
/-- x not in t, t a tuple of texts that is tracked, x any data or any dict -/
def rNotInT : R2 := fun x y H Q => ∃ (p : Addr) (zs : List Str), y = .ref p ∧ H p = some (.tup (zs.map V.str)) ∧ zs.all PyData.strOk = true ∧
  ((∃ d, Da H x d ∧ d.canLay0 = true ∧ d.depth ≤ 40 ∧ Q (.bl (!(zs.any fun z => PyData.eqv (.str z) d))) H) ∨ (∃ (a : Addr) (kvs : List (Key × V)), x = .ref a ∧ H a = some (.dK kvs) ∧ Q (.bl true) H))
theorem op_notInT {k : Nat} (rm : Room k X.A) : OpR X (compareOp .NotIn) rNotInT := by
  intro pins s σ H x y v u Q I rx ry h
  obtain ⟨p, zs, rfl, hp, zok, h⟩ := h
  obtain rfl : u = Value.ref p := ry
  obtain ⟨_, its, rv, ⟨o, ho, hc, n, hdt⟩⟩ := I.hok p _ hp
  have room := rm.units
  rcases h with ⟨d, hd, lay, dp, q⟩ | ⟨a, kvs, rfl, ha, q⟩
  · obtain ⟨as, rd⟩ := hd X pins σ s v I rx
    refine SeqAt.notIn_tuple_reads (.tuple ho hc hdt (by simpa using strs_reads rv)) rd (strs_lay zok) lay (Nat.lt_of_le_of_lt (Nat.add_le_add_left (Nat.min_le_right _ _) _) (by omega)) ⟨.bl _, H, I, rfl, ?_⟩
    rw [List.any_map]
    exact q
  · obtain rfl : v = Value.ref a := rx
    obtain ⟨_, _, vs, _, ob, es, ep, e, c⟩ := I.hok a _ ha
    obtain ⟨oc, od, odt, osl⟩ := ob
    obtain ⟨c0, c2, c3⟩ := c
    have c1 := c0.1
    have c4 := c0.2.1
    dsimp only at c1 c2
    subst c1 c2
    refine SeqAt.notIn_tupleAt (fun _ => false) ⟨_, ho, hc, _, hdt⟩ (fun y hy => ?_) ⟨.bl _, H, I, rfl, ?_⟩
    · obtain ⟨z, t, rfl⟩ := strs_mem rv y (by simpa using hy)
      exact eqAt_str_dict z t e (by show X.A.units + 1 < cLine; omega)
    · have e1 : (its.toArray.any fun _ => false) = false := by
        rw [← Array.any_toList]
        exact List.any_eq_false.mpr fun _ _ => Bool.false_ne_true
      rw [e1]
      exact q
end
end KG

set_option Elab.async false
set_option linter.all false
set_option maxRecDepth 100000
set_option maxHeartbeats 1000000
/-! KD: methods and properties of an object whose class is known by its place in a list of classes. -/
namespace KG
open PySem PySem.Spec PySem.Calls PyProof.Rows L2
/-- each class of the list has a method m, promised sp -/
def DMeth (P : Program) (w : World) (K : PySem.W.Frag) (mg : Str → Option Value) (base : Heap) (CX : CXT) (k : Nat) (CL : List Addr) (m : Str) (ps : List Str) (sp : Nat → Sp) : Prop :=
  ∀ n C, CL[n]? = some C → ∃ f fd, Cls K C ∧ Meth K C m f ∧ Binds K fd ps [] ∧ Gd P w K mg base CX k f fd ps (sp n)
def DProp (P : Program) (w : World) (K : PySem.W.Frag) (mg : Str → Option Value) (base : Heap) (k : Nat) (CL : List Addr) (m : Str) (sp : Nat → Sp) : Prop :=
  ∀ n C, CL[n]? = some C → ∃ p g fd, Cls K C ∧ PropOf K C m p g ∧ Binds K fd ["self"] [] ∧ Gd P w K mg base CX0 k g fd ["self"] (sp n)
/-- the same with one argument by keyword -/
def DMethK (P : Program) (w : World) (K : PySem.W.Frag) (mg : Str → Option Value) (base : Heap) (CX : CXT) (k : Nat) (CL : List Addr) (m x : Str) (sp : Nat → Sp) : Prop :=
  ∀ n C, CL[n]? = some C → ∃ f fd, Cls K C ∧ Meth K C m f ∧ KBn K fd ["self", x] 1 [x] (fun us ws => us ++ ws) (fun us ws => us ++ ws) ∧ Gd P w K mg base CX k f fd ["self", x] (sp n)
def tDyn (CL : List Addr) (m : Str) (sp : Nat → Sp) (E : XK) (ta : TE) (tk : TA) : TE := fun σ H Q => ta σ H fun x H1 => ∃ a n C dx fs, x = .ref a ∧ CL[n]? = some C ∧ H1 a = some (.ins C dx fs) ∧ fs.lookup m = none ∧ tk σ H1 fun vs H2 => sp n (.ref a :: vs) H2 Q E
def tDynP (CL : List Addr) (sp : Nat → Sp) (E : XK) (ta : TE) : TE := fun σ H Q => ta σ H fun x H1 => ∃ a n C dx fs, x = .ref a ∧ CL[n]? = some C ∧ H1 a = some (.ins C dx fs) ∧ sp n [.ref a] H1 Q E
section
variable {X : Cx} {CX : CXT} {k j : Nat} {CL : List Addr} {ps : List Str} {sp : Nat → Sp} {E : XK} {m x : Str} {p pos apos : Pos} {e o : Expr} {es : List Expr} {kws : List Keyword} {ta : TE} {t tk : TA}
theorem pe_dmeth0 {pl : Sem Bool} (he : PE X o ta) (D : DMeth X.prog X.w X.K X.mg X.base CX j CL m ps sp) (rm : Room k X.A) (hk : j ≤ k) (gd : X.A.guards = some []) (hx : Passes CX X E)
    (ht : eval (.Call (.Attribute o m apos) [] [] pos) X.env = (do
      let w ← eval o X.env
      standAt apos.atName
      let (g, a) ← holding [w] (getMethod w m pl)
      callWith pos g a (backTo pos (starEach [] X.env)) (backToKw pos (keywordEach [] X.env))) := by rfl) :
    PE X (.Call (.Attribute o m apos) [] [] pos) (tDyn CL m sp E ta tNil) := by
  refine ⟨fun pins s σ H Q I h => PySem.W.methodCall_KW (pl := pl) (thn (he.run pins s σ H _ I h) fun u s1 ⟨y, H1, J, ry, a, n, C, dx, fs, ey, hC, ea, l, q⟩ => ?_) ht⟩
  subst ey
  obtain rfl : u = Value.ref a := ry
  obtain ⟨f, fd, c, hm, hb, F⟩ := D n C hC
  have r1 : Vals [V.ref a] [Value.ref a] := .cons rfl .nil
  exact getmeth_ok J ea c hm l (PySem.W.callWith_K0 (first := [.ref a]) J.kIn hm.kp (run_g (us := [.ref a]) F (rm.mono hk) gd hx J (bind_pos (dvs := []) (vs := [.ref a]) F hb .nil J.kIn r1 q) (r1.append .nil) q))
theorem pe_dmeth {pl : Sem Bool} (he : PE X o ta) (D : DMeth X.prog X.w X.K X.mg X.base CX j CL m ps sp) (rm : Room k X.A) (hk : j ≤ k) (gd : X.A.guards = some []) (hx : Passes CX X E) (ha : PA X (e :: es) t)
    (hst : starEach (e :: es) X.env = (false, eval e X.env) :: starEach es X.env := by rfl) (hpl : (backTo pos (starEach es X.env)).any (·.1) = false := by rfl)
    (ht : eval (.Call (.Attribute o m apos) (e :: es) [] pos) X.env = (do
      let w ← eval o X.env
      standAt apos.atName
      let (g, a) ← holding [w] (getMethod w m pl)
      callWith pos g a (backTo pos (starEach (e :: es) X.env)) (backToKw pos (keywordEach [] X.env))) := by rfl) :
    PE X (.Call (.Attribute o m apos) (e :: es) [] pos) (tDyn CL m sp E ta t) := by
  refine ⟨fun pins s σ H Q I h => PySem.W.methodCall_KW (pl := pl) (thn (he.run pins s σ H _ I h) fun u s1 ⟨y, H1, I1, ry, a, n, C, dx, fs, ey, hC, ea, l, q⟩ => ?_) ht⟩
  subst ey
  obtain rfl : u = Value.ref a := ry
  obtain ⟨f, fd, c, hm, hb, F⟩ := D n C hC
  refine getmeth_ok I1 ea c hm l (PySem.W.callWith_K (first := [.ref a]) (h₀ := X.base) I1.ok.mod.kin hm.kp (thn (ha.run pos pins s1 σ H1 _ I1 q) fun us s2 ⟨vs, H2, J, r, q2⟩ => ⟨J.kIn, ?_⟩) hst hpl)
  have r1 : Vals (V.ref a :: vs) (Value.ref a :: us) := .cons rfl r
  have q3 : sp n (V.ref a :: vs ++ []) H2 Q E := by rw [List.append_nil]; exact q2
  exact run_g F (rm.mono hk) gd hx J (bind_pos (dvs := []) F hb .nil J.kIn r1 q3) (r1.append .nil) q3
theorem pe_dprop (he : PE X o ta) (D : DProp X.prog X.w X.K X.mg X.base j CL m sp) (rm : Room (k + 1) X.A) (hk : j ≤ k) (gd : X.A.guards = some [])
    (ab : attributeBase o m X.env (eval o X.env) = eval o X.env := by rfl) : PE X (.Attribute o m pos) (tDynP CL sp E ta) := by
  refine ⟨fun pins s σ H Q I z => ?_⟩
  refine attr_of ab (thn (he.run pins s σ H _ I z) fun u s1 z1 => ?_)
  obtain ⟨v0, H1, J, ru, a, n, C, dx, fs, rfl, hC, ea, q⟩ := z1
  obtain ⟨p, g, fd, c, P, hb, F⟩ := D n C hC
  obtain rfl : u = Value.ref a := ru
  obtain ⟨mA, O, _⟩ := ins_get J.hok ea
  obtain ⟨od, O, _⟩ := O.look
  obtain ⟨tail, isP⟩ := P.rec_
  have isC : (PySem.W.clsIn X.K C).isSome = true := let ⟨_, w, _⟩ := PySem.W.any_some c.hd; w ▸ rfl
  have J1 := J.tok (s1.toks + 1)
  have pg := PySem.W.plainGet_of (c.get m)
  refine PySem.W.get_bind J.kIn O pg.1 (PySem.W.findObj_data isC P.at_ P.get P.tak) pg.2 (wpAny_call (PySem.W.prop_get (s := { s1 with toks := s1.toks + 1 }) J.kIn isP ?_))
  have r1 : Vals [V.ref a] [Value.ref a] := .cons rfl .nil
  have bt := bind_pos (dvs := []) (vs := [V.ref a]) F hb .nil J1.kIn r1 q
  refine codeAny_mono (F.go X.A.in1 X.stack { s1 with toks := s1.toks + 1 } H1 ⟨[.ref a], []⟩ _ _ Q E (rm.mono (Nat.succ_le_succ hk)).in1 gd J1.env0.in1 bt r1 q) fun out s2 z2 => ?_
  match out, z2 with
  | .error er, z2 => exact False.elim z2
  | .ok (.ret u), z2 =>
    obtain ⟨v, H2, J2, rv, q2⟩ := J1.after z2
    show wpAny _ _ (handedOut u) _ _ _
    rw [PySem.W.handedOut_of (handed_of rv)]
    exact wpAny_pure ⟨v, H2, J2, rv, q2⟩
def tDynK (CL : List Addr) (m : Str) (sp : Nat → Sp) (E : XK) (ta : TE) (tk : TA) : TE := fun σ H Q => ta σ H fun x H1 => ∃ a n C dx fs, x = .ref a ∧ CL[n]? = some C ∧ H1 a = some (.ins C dx fs) ∧ fs.lookup m = none ∧ tk σ H1 fun zs H2 => ∃ z, zs = [z] ∧ sp n [.ref a, z] H2 Q E
/-- o.m(x=e) -/
theorem pe_dmethK {pl : Sem Bool} (he : PE X o ta) (D : DMethK X.prog X.w X.K X.mg X.base CX j CL m x sp) (rm : Room k X.A) (hk : j ≤ k) (gd : X.A.guards = some []) (hx : Passes CX X E) (hkw : PK X kws tk)
    (hall : (backToKw pos (keywordEach kws X.env)).all (·.1.isSome) = true := by rfl) (hks : (backToKw pos (keywordEach kws X.env)).filterMap (·.1) = [x] := by rfl)
    (hpl : ((backTo pos (starEach [] X.env)).any (·.1) || (backToKw pos (keywordEach kws X.env)).any (·.1.isNone)) = false := by rfl)
    (ht : eval (.Call (.Attribute o m apos) [] kws pos) X.env = (do
      let w ← eval o X.env
      standAt apos.atName
      let (g, a) ← holding [w] (getMethod w m pl)
      callWith pos g a (backTo pos (starEach [] X.env)) (backToKw pos (keywordEach kws X.env))) := by rfl) :
    PE X (.Call (.Attribute o m apos) [] kws pos) (tDynK CL m sp E ta tk) := by
  refine ⟨fun pins s σ H Q I h => PySem.W.methodCall_KW (pl := pl) (thn (he.run pins s σ H _ I h) fun u s1 ⟨y, H1, I1, ry, a, n, C, dx, fs, ey, hC, ea, l, q⟩ => ?_) ht⟩
  subst ey
  obtain rfl : u = Value.ref a := ry
  obtain ⟨f, fd, c, hm, hb, F⟩ := D n C hC
  refine getmeth_ok I1 ea c hm l (PySem.W.callWith_KW0 (first := [.ref a]) (h₀ := X.base) I1.ok.mod.kin hm.kp hall (thn (hkw.run pos pins s1 σ H1 _ I1 q) fun ws s2 ⟨zs, H2, J, rz, z, ez, q2⟩ => ⟨J.kIn, ?_⟩) hpl)
  subst ez
  obtain ⟨u, eu, ru⟩ := vals1 rz
  subst eu
  rw [hks]
  have r1 : Vals [V.ref a] [Value.ref a] := .cons rfl .nil
  exact run_g (us := [.ref a]) F (rm.mono hk) gd hx J (hb.to s2 [.ref a] [u] J.kIn rfl rfl) (hb.rel r1 (.cons ru .nil)) q2
theorem w_dynP {σ : L2.St} {H : Hp} {Q : VK} (q : ta σ H fun x H1 => ∃ a n C dx fs, x = .ref a ∧ CL[n]? = some C ∧ H1 a = some (.ins C dx fs) ∧ sp n [.ref a] H1 Q E) : tDynP CL sp E ta σ H Q := q
theorem w_dyn {σ : L2.St} {H : Hp} {Q : VK} (q : ta σ H fun x H1 => ∃ a n C dx fs, x = .ref a ∧ CL[n]? = some C ∧ H1 a = some (.ins C dx fs) ∧ fs.lookup m = none ∧ tk σ H1 fun vs H2 => sp n (.ref a :: vs) H2 Q E) : tDyn CL m sp E ta tk σ H Q := q
theorem w_dynK {σ : L2.St} {H : Hp} {Q : VK} (q : ta σ H fun x H1 => ∃ a n C dx fs, x = .ref a ∧ CL[n]? = some C ∧ H1 a = some (.ins C dx fs) ∧ fs.lookup m = none ∧ tk σ H1 fun zs H2 => ∃ z, zs = [z] ∧ sp n [.ref a, z] H2 Q E) : tDynK CL m sp E ta tk σ H Q := q
end
end KG

set_option Elab.async false
set_option linter.all false
set_option maxRecDepth 100000
set_option maxHeartbeats 3200000
/-! KC: set(xs) of a list of whole numbers, as a value; sorted of it is the layer's own. -/
namespace KG
open PySem PySem.Spec PySem.Calls PyProof.Rows L2
section
variable {P : Program} {w : World} {A : Around} {E : Value → Shared → Prop} {s : Shared}
/-- a set as set.__new__ lays it -/
abbrev set0 (w : World) : Obj := { cls := .type "set", dict := none, data := .set #[] 0 (.fresh 0 0 (!w.params.followText "set-order")) }
/-- the state with such a set laid -/
abbrev laid0 (w : World) (s : Shared) : Shared := { s with heap := s.heap.push (set0 w) }
/-- what stands behind: all that was, and the set of the numbers at d -/
def Filled (w : World) (s : Shared) (d : Addr) (ns : List Int) (s' : Shared) : Prop :=
  ∃ (h' : Heap) (tk c : Nat), s' = { s with heap := h', toks := tk } ∧ SetR w h' d (fun j => decide (j ∈ ns)) c ∧ c ≤ ns.length ∧ ∀ b o, b ≠ d → s.heap.get? b = some o → h'.get? b = some o
/-- the filling, from the list's iterator -/
theorem fill_from {B : Around} {l d : Addr} {items : Array Value} {ns : List Int} {R : Result → Shared → Prop} (hB : B.handled = none) (hit : IntsAre items.toList ns) (hb : ns.length + 1 < scanBound) (hl : s.heap.IsList l items)
    (hd : s.heap.get? d = some (set0 w)) (hne : d ≠ l) (h : ∀ s', Filled w s d ns s' → R (.ok (.ret .none)) s') :
    codeAny (model P w) B (.builtin "set.update.loop" ⟨[.ref d, .ref s.heap.objs.size], []⟩) R { s with heap := s.heap.push { cls := .type "list_iterator", data := .fields #[.ref l, .int 0 0] } } := by
  have en : items.size = ns.length := by
    have q := IntsAre.length hit
    rwa [Array.length_toList] at q
  obtain ⟨ol, hol, hol2⟩ := id hl
  have lt1 : l < s.heap.objs.size := Heap.lt_size hol
  have lt2 : d < s.heap.objs.size := Heap.lt_size hd
  have at_i : ∀ (i : Nat) (v : Value), items[i]? = some v → ∃ k t, ns[i]? = some k ∧ v = .int k t := fun i v hv => by
    have hi : i < ns.length := by rw [← en]; exact (Array.getElem?_eq_some_iff.mp hv).1
    obtain ⟨t, e⟩ := PyProof.Rows.IntsAre.int_at hit i v (by rw [Array.getElem?_toList]; exact hv)
    refine ⟨ns[i], t, List.getElem?_eq_getElem hi, ?_⟩
    rw [e, List.getD_eq_getElem?_getD, List.getElem?_eq_getElem hi] <;> rfl
  refine set_update_ints ((Walks.list (by simp [hB]) s.heap.objs.size l (Nat.ne_of_lt lt1) items).toS) d (by simp; exact ⟨Nat.ne_of_lt lt2, hne⟩) ns en hb at_i items.size 0 _ (by omega) (Nat.zero_le _)
    ⟨⟨_, Heap.get?_push_size _ rfl, rfl, rfl⟩, hl.push _⟩ ⟨0, Nat.le_refl 0, setR_new_at (Heap.get?_push_of_some _ hd)⟩ fun s' c m hc R1 => h s' ?_
  obtain ⟨h', g', d', tk, os'⟩ := s'
  obtain rfl : g' = s.gens := m.gens
  obtain rfl : d' = s.drawn := m.drawn
  obtain rfl : os' = s.os := m.os
  refine ⟨h', tk, c, rfl, R1, en ▸ hc, fun b o nb e => m.heap b o ?_ (Heap.get?_push_of_some _ e)⟩
  have := Heap.lt_size e
  simp only [List.mem_cons, List.not_mem_nil, or_false, not_or]
  exact ⟨nb, Nat.ne_of_lt this⟩
/-- set.__init__ on the fresh set -/
theorem init_list {l : Addr} {items : Array Value} {ns : List Int} (hh : A.handled = none) (hit : IntsAre items.toList ns) (hb : ns.length + 1 < scanBound) (hl : s.heap.IsList l items) :
    codeAny (model P w) A (.call (.builtin "set.__init__") ⟨[.ref s.heap.objs.size, .ref l], []⟩) (wants (fun r s' => r = .none ∧ Filled w (laid0 w s) s.heap.objs.size ns s') E) (laid0 w s) := by
  have hS : (laid0 w s).heap.get? s.heap.objs.size = some (set0 w) := Heap.get?_push_size _ rfl
  have hT : (laid0 w s).TypeIs (.ref s.heap.objs.size) "set" := ⟨_, hS, rfl⟩
  refine codeAny_call_builtin F.called_set.init.plain F.entry_set_init (check_set_init_1 hT ?_)
  have hl1 : (laid0 w s).heap.IsList l items := hl.push _
  obtain ⟨⟨ocls, odict, odata, osl⟩, hol, hcl, nl, hdl⟩ := id hl
  simp only at hcl hdl
  subst hcl hdl
  have hol' := Heap.get?_push_of_some (set0 w) hol
  have e1 := F.sub_list_set
  have e2 := F.sub_list_frozenset
  have e3 : (Value.type "list" == Value.type "dict") = false := by decide
  have lt1 : l < s.heap.objs.size := Heap.lt_size hol
  unfold Builtin.«set.__init__» noKeywords Builtin.Frozenset.updateFrom
  generalize hPI : pyIter = PI
  wp_walk
  subst hPI
  refine wpAny_pyIter_list hl1 ?_
  refine wpAny_bind (wpAny_runValue (fill_from (s := laid0 w s) (by simp [hh]) hit hb hl1 hS (Nat.ne_of_gt lt1) fun s' f => ?_))
  show wpAny _ _ _ _ _ _
  refine wpAny_pure ?_
  show wpAny _ _ (ret Value.none) _ _ _
  exact wpAny_pure ⟨rfl, f⟩
/-- set(xs) -/
theorem set_list {l : Addr} {items : Array Value} {ns : List Int} {Q : Value → Shared → Prop} (hh : A.handled = none) (hit : IntsAre items.toList ns) (hb : ns.length + 1 < scanBound) (hl : s.heap.IsList l items)
    (h : ∀ s', Filled w (laid0 w s) s.heap.objs.size ns s' → Q (.ref s.heap.objs.size) s') : wpAny (model P w) A (call (.type "set") [.ref l]) Q E s := by
  obtain ⟨c, tl, hmro⟩ := F.called_set.mro
  have k1 := F.called_set.made
  have k2 := F.called_set.sub
  have k3 := F.called_set.notType
  have k4 := F.called_set.canCreate
  have k5 := F.typeCall_set_1 (.ref l)
  refine wpAny_call (codeAny_of_tree ?_)
  show wpAny _ _ (callAny (.type "set") _) _ _ _
  refine wpAny_pure ⟨Code.quiet_builtin _ (by decide +kernel), codeAny_builtin F.entry_type_call ?_⟩
  rw [Around.under_plain (weight_type_call_type "set" [.ref l] []) rfl]
  repeat (any_goals (first | assumption | wp_step))
  refine codeAny_mono (code_set_led1 (.ref l) (E := E) (Q₁ := fun obj s₁ => obj = .ref s.heap.objs.size ∧ s₁ = laid0 w s) ⟨rfl, rfl⟩) fun r s₁ hr => ?_
  rcases r with e | (_ | _ | _ | obj)
  · exact hr
  iterate 3 exact hr.elim
  · obtain ⟨rfl, rfl⟩ := hr
    have hS : (laid0 w s).heap.get? s.heap.objs.size = some (set0 w) := Heap.get?_push_size _ rfl
    have hT : (laid0 w s).TypeIs (.ref s.heap.objs.size) "set" := ⟨_, hS, rfl⟩
    have k6 := F.called_set.init.lookup
    have k7 := F.called_set.init.bind (.ref s.heap.objs.size)
    repeat (any_goals (first | assumption | wp_step))
    refine codeAny_mono (init_list (E := E) (by simp [hh]) hit hb hl) fun r₂ s₂ hr₂ => ?_
    rcases r₂ with e | (_ | _ | _ | r)
    · exact hr₂
    iterate 3 exact hr₂.elim
    · obtain ⟨rfl, f⟩ := hr₂
      repeat (any_goals (first | assumption | wp_step))
      exact h _ f
end
/-- set(xs), xs a list of whole numbers -/
def rSetI (K : PySem.W.Frag) (w : World) : List V → Hp → VK → Prop := fun xs H Q => ∃ (l : Addr) (ns : List Int), xs = [.ref l] ∧ SqL K H l (ns.map V.int) ∧ ns.length ≤ 1000 ∧ ∀ (a : Addr) (c : Nat), H a = none → c ≤ ns.length → Q (.ref a) (upd H a (SetO w a (fun j => decide (j ∈ ns)) c))
theorem cr_setI {X : Cx} (hc : X.calm = true) : CallR X (.type "set") (rSetI X.K X.w) := by
  intro pins s σ H xs us Q I r h
  obtain ⟨l, ns, rfl, hl, hb, q⟩ := h
  rw [Vals.ref1 r]
  obtain ⟨its, rv, p, hz⟩ := I.list hl
  have fr : H s.heap.objs.size = none := I.hok.fresh (Nat.le_refl _)
  refine set_list (I.ok.hd hc) (ns := ns) (items := its.toArray) (by simpa using RZ.intsAre_vals rv) (by unfold scanBound; omega) p.isList fun s' ⟨h', tk, c, e, R, hcl, k⟩ => ?_
  subst e
  have kp : ∀ b o, s.heap.get? b = some o → h'.get? b = some o := fun b o e => k b o (Nat.ne_of_lt (Heap.lt_size e)) (Heap.get?_push_of_some _ e)
  exact ⟨.ref s.heap.objs.size, upd H s.heap.objs.size (SetO X.w s.heap.objs.size (fun j => decide (j ∈ ns)) c), I.laid (t' := tk) kp (Nat.le_refl _) (setO_new R), rfl, q _ c fr hcl⟩
end KG

set_option Elab.async false
set_option linter.all false
set_option maxRecDepth 100000
set_option maxHeartbeats 1000000
/-! KC2: an instance made by the class's name alone, all of its __init__'s arguments by default. -/
namespace KG
open PySem PySem.Spec PySem.Calls PyProof.Rows L2
theorem pe_gmake0 {X : Cx} {CX : CXT} {k : Nat} {C f : Addr} {fd : FuncData} {ps : List Str} {sp : Sp} {E : XK} {x : Str} {p pos : Pos} {ds : List Value} {dvs : List V} (M : Mk X.K C f) (F : Gd X.prog X.w X.K X.mg X.base CX k f fd ps sp) (rm : Room (k + 1) X.A) (gd : X.A.guards = some []) (gl : Gl X x) (at_ : X.mg x = some (.ref C))
    (hb : Binds X.K fd ps ds) (hd : Vals dvs ds) (hx : Passes CX X E) (hdb : (x == ("__debug__" : Str)) = false := by decide) : PE X (.Call (.Name x p) [] [] pos) (tMake C sp dvs E tNil) := by
  refine ⟨fun pins s σ H Q I h => wpAny_Call_Name_kw (ld_glob I gl at_ (PySem.W.callWith_K0 (first := []) I.kIn M.kp ?_) hdb)⟩
  have rr : ∀ y : Addr, Vals (V.ref y :: dvs) (Value.ref y :: ds) := fun y => .cons rfl hd
  have hl : ∀ y : Addr, (Value.ref y :: ds).length = ps.length := fun y => by
    have e := (rr y).length
    have q1 := h (s.heap.objs.size + 1) s.heap.objs.size (I.hok.fresh (Nat.le_succ _)) (I.hok.fresh (Nat.le_refl _)) (Nat.ne_of_lt (Nat.lt_succ_self _))
    have e1 := F.len _ _ _ _ q1
    rw [← e, ← e1]
    simp
  exact run_gmake (us := []) (fun y => y :: ds) (fun y => y :: dvs) M F rm gd (fun s y KX => hb s [.ref y] KX (hl y)) rr hx I h
end KG

set_option Elab.async false
set_option linter.all false
set_option maxRecDepth 100000
set_option maxHeartbeats 3200000
/-! KB: {e for x in a for y in b}, e a whole number: one rule for a clause's loop, whatever a turn of it does; the comprehension by two of them. -/
namespace KG
open PySem PySem.Spec PySem.Calls PyProof.Rows L2

/-- a clause's turn, the rest of it told by `rest` -/
def clTurn (tg iter : Expr) (ifs : List Expr) (env : Env) (it : Value) (rest : Sem Unit) (c : Code) : Sem Fin := do
  standAt iter.pos
  match ← pyNext it with
  | none => pure (.done .next)
  | some v =>
    letOwnedTupleGo tg it v
    assign tg env v
    let mut ok := true
    for c in ifs do
      if ok then ok ← isTrue c env (eval c env)
    if ok then rest
    again c
/-- what a clause asks: `tb` what its rest asks, to reach what stands behind -/
def ClQ (J : It) (g : TG) (tt : TT) (tb : L2.St → Hp → (Hp → Prop) → Prop) (vs : List Nat) (σ : L2.St) (H : Hp) (Z : Hp → Prop) : Prop :=
  ∃ W : Nat → Nat → Hp → Prop, (∃ m, W 0 m H) ∧ ∀ i m H, W i m H → (J.stop i H ∧ Z H) ∨ (J.go i H ∧ ∃ Nx : Hp → Prop, (∀ H', Nx H' → ∃ m', m' < m ∧ W (i + 1) m' H') ∧
    ∀ x H', J.yld i H x H' → g x (wipe σ vs) H' fun σ2 H2 => wipe σ2 vs = wipe σ vs ∧ tt σ2 H2 fun b H3 => if b = true then tb σ2 H3 Nx else Nx H3)
/-- the rest of a turn: what it leaves knows all slots but those of the clause's own names -/
def Rest (X : Cx) (rest : Sem Unit) (tb : L2.St → Hp → (Hp → Prop) → Prop) (vs : List Nat) : Prop :=
  ∀ (pins : List (Addr × Obj)) (s : Shared) (σ : L2.St) (H : Hp) (Z : Hp → Prop), Inv X pins σ H s → tb σ H Z →
    wpAny (model X.prog X.w) X.A rest (fun _ s' => ∃ σ' H', Inv X pins σ' H' s' ∧ σ'.length = σ.length ∧ (∀ (j : Nat) v, (wipe σ vs)[j]? = some (some v) → σ'[j]? = some (some v)) ∧ Z H') (fun _ _ => False) s
section
variable {X : Cx} {elt tg iter : Expr} {gens : List Comprehension} {ifs : List Expr} {scope : Scope} {pos : Pos} {d : Nat} {acc : Value} {R : Result → Shared → Prop} {pins : List (Addr × Obj)} {J : It} {g : TG} {tt : TT} {tb : L2.St → Hp → (Hp → Prop) → Prop} {vs : List Nat}
  {σ : L2.St} {H : Hp} {Z : Hp → Prop} {s : Shared} {rest : Sem Unit} {it : Addr} {fp : List Addr} {tn : Nat → Heap → Prop}
theorem clause_run (hx : X.xe = fun _ _ => False) (hc : X.calm = true) (ht : compTurn (.SetComp elt gens scope pos) d (.ref it) acc X.env = clTurn tg iter ifs X.env (.ref it) rest (.compLoop (.SetComp elt gens scope pos) d (.ref it) acc X.env))
    (pg : PG X tg g) (pt : PTs X ifs tt) (pr : Rest X rest tb vs) (T : Turn X.prog X.w X.K tg J fp it tn) (I : Inv X pins (wipe σ vs) H s) (st : tn 0 s.heap) (fo : ∀ b ∈ fp, FpOk X pins H b) (q : ClQ J g tt tb vs σ H Z)
    (hR : ∀ s' H', Inv X pins (wipe σ vs) H' s' → Z H' → R (.ok .next) s') : codeAny (model X.prog X.w) X.A (.compLoop (.SetComp elt gens scope pos) d (.ref it) acc X.env) R s := by
  obtain ⟨W, ⟨m0, w0⟩, turn⟩ := q
  refine codeAny_loop rfl (fun n t => ∃ i G, Inv X pins (wipe σ vs) G t ∧ tn i t.heap ∧ (∀ b ∈ fp, FpOk X pins G b) ∧ W i n G) (fun n t ht1 => ?_) m0 ⟨0, H, I, st, fo, w0⟩
  obtain ⟨i, G, I1, st1, fo1, w1⟩ := ht1
  show wpAny _ X.A ((compTurn (.SetComp elt gens scope pos) d (.ref it) acc X.env).onRaise fun x => do noteFrame x X.env; theTreesLotGoes x) _ _ t
  refine wpAny_noted ?_
  rw [ht]
  unfold clTurn
  refine wpAny_bind (wpAny_standAt (wpAny_bind ?_))
  rcases turn i n G w1 with ⟨stop, z⟩ | ⟨go, Nx, less, step⟩
  · exact thnF (T.done X rfl rfl rfl hc i pins t (wipe σ vs) G (fun _ _ => False) I1 fo1 st1 stop) fun r t2 ⟨er, I2⟩ => by
      subst er
      exact wpAny_pure (hR t2 G I2 z)
  refine thnF (T.item X rfl rfl rfl hc i pins t (wipe σ vs) G (fun _ _ => False) I1 fo1 st1 go) fun r t2 ⟨u, er, next⟩ => ?_
  subst er
  refine wpAny_bind (thnF next fun _ t3 ⟨x, G3, I3, rx, y3, st3, none3⟩ => ?_)
  have fo3 : ∀ b ∈ fp, FpOk X pins G3 b := fun b hb => ⟨none3 b hb, (fo1 b hb).2⟩
  have P3 := I3.pinned fo3 (T.obj _ _ st3)
  -- the turn is over
  have over : ∀ {τ : L2.St} {t' : Shared} {G' : Hp}, Inv X (pins ++ pinsAt fp t3.heap) τ G' t' → τ.length = (wipe σ vs).length → (∀ (j : Nat) v, (wipe σ vs)[j]? = some (some v) → τ[j]? = some (some v)) → Nx G' →
      ∃ m, m < n ∧ ∃ i G, Inv X pins (wipe σ vs) G t' ∧ tn i t'.heap ∧ (∀ b ∈ fp, FpOk X pins G b) ∧ W i m G := fun {τ t' G'} I' l k nx => by
    obtain ⟨m, lt, w'⟩ := less G' nx
    have held : ∀ b ∈ fp, ∀ o, t3.heap.get? b = some o → t'.heap.get? b = some o ∧ G' b = none := fun b hb o e => by
      have z := I'.pin (b, o) (List.mem_append_right _ (List.mem_append_right _ (mem_pinsAt hb e)))
      exact ⟨z.1, z.2.1⟩
    refine ⟨m, lt, i + 1, G', I'.unpinned.weak l.symm k, T.keep _ _ _ st3 fun b hb o e => (held b hb o e).1, fun b hb => ⟨?_, (fo1 b hb).2⟩, w'⟩
    obtain ⟨o, e, _⟩ := T.obj _ _ st3 b hb
    exact (held b hb o e).2
  have pg' := pg.run _ t3 (wipe σ vs) G3 x u _ P3 rx (step x G3 y3)
  rw [hx] at pg'
  refine wpAny_bind (thnF pg' fun _ t4 ⟨σ4, G4, I4, e4, q4⟩ => ?_)
  have pt' := pt.run _ t4 σ4 G4 _ I4 q4
  rw [hx] at pt'
  have l4 : σ4.length = (wipe σ vs).length := by rw [← e4, wipe_length]
  refine wpAny_bind (thnF pt' fun b t5 ⟨G5, I5, q5⟩ => ?_)
  cases b with
  | false => exact wpAny_pure ⟨rfl, over I5 l4 (fun j v e => by rw [← e4] at e; exact (wipe_some e).1) q5⟩
  | true =>
    refine wpAny_bind (thnF (pr _ t5 σ4 G5 Nx I5 q5) fun _ t6 ⟨σ6, G6, I6, l6, k6, q6⟩ => ?_)
    exact wpAny_pure ⟨rfl, over I6 (l6.trans l4) (fun j v e => k6 j v (by rw [e4]; exact e)) q6⟩
/-- a clause's start -/
theorem clause_start {ce : Env} {c : Comprehension} (hg : gens[d]? = some c) (ha : c.is_async = 0) (h : codeAny (model X.prog X.w) X.A (.compLoop (.SetComp elt gens scope pos) d (.ref it) acc ce) R s) (T : Turn X.prog X.w X.K tg J fp it tn) (st : tn 0 s.heap) :
    codeAny (model X.prog X.w) X.A (.compStart (.SetComp elt gens scope pos) d (.ref it) acc ce) R s := by
  refine codeAny_of_tree ?_
  show wpAny _ _ ((compStart (.SetComp elt gens scope pos) d (.ref it) acc ce).onRaise fun x => do noteFrame x ce; standAt theWindowsPlace) _ _ s
  refine wpAny_notedAt ?_
  have hcl : (clausesOf (.SetComp elt gens scope pos))[d]? = some c := hg
  unfold compStart
  rw [hcl]
  have hn : ((some c : Option Comprehension).elim false fun x => x.is_async != 0) = false := by
    show (c.is_async != 0) = false
    rw [ha]
    rfl
  rw [hn]
  simp only [Bool.false_eq_true, if_false]
  show wpAny _ _ (ask >>= _) _ _ s
  refine wpAny_bind (wpAny_askSetting (wpAny_ite ?_))
  have last : ∀ (s' : Shared) (E' : Value → Shared → Prop), s' = s → wpAny (model X.prog X.w) X.A (again (.compLoop (.SetComp elt gens scope pos) d (.ref it) acc ce)) (fun fin s' => match fin with | .done f => R (.ok f) s' | .again c' => c'.quiet = true ∧ codeAny (model X.prog X.w) X.A c' R s') E' s' := fun s' E' e => by
    subst e
    exact wpAny_pure ⟨rfl, h⟩
  split
  · first
      | exact last _ _ rfl
      | exact wpAny_bind (last _ _ rfl)
      | exact wpAny_bind (wpAny_pure (last _ _ rfl))
  · refine wpAny_bind (wpAny_rule ?_)
    first
      | exact wpAny_bind (wpAny_standAt (wpAny_bind (T.self X.A 0 s _ _ st (last _ _ rfl))))
      | exact wpAny_bind (wpAny_bind (wpAny_standAt (wpAny_bind (T.self X.A 0 s _ _ st (last _ _ rfl)))))
/-- the last clause's rest: the item goes into the set -/
def tAdd (w : World) (D : Addr) (te : TE) : L2.St → Hp → (Hp → Prop) → Prop := fun σ H Z => te σ H fun y H1 => ∃ (k : Int) (S : Int → Bool) (n : Nat), y = .int k ∧ H1 D = some (SetO w D S n) ∧ n + 1 < scanBound ∧ Z (upd H1 D (SetO w D (fun j => S j || decide (j = k)) (if S k = true then n else n + 1)))
theorem rest_add {D : Addr} {te : TE} (hx : X.xe = fun _ _ => False) (pe : PE X elt te) : Rest X (do let v ← eval elt X.env; standAt elt.pos; let _ ← call (.builtin "set.add") [.ref D, v]) (tAdd X.w D te) vs := by
  intro ps t τ G Y I q
  have h := pe.run ps t τ G _ I q
  rw [hx] at h
  refine wpAny_bind (thnF h fun u t1 ⟨y, G1, I1, r1, k, S, n, ey, hD, room, z⟩ => ?_)
  subst ey
  refine wpAny_bind (wpAny_standAt (wpAny_bind ?_))
  refine wpAny_mono (mt_sadd ps t1 τ G1 (.ref D) [.int k] (.ref D) [u] (fun _ G2 => Y G2) I1 rfl (.cons r1 .nil) ⟨D, k, S, n, rfl, rfl, hD, room, z⟩) (fun v t2 ⟨y2, G2, I2, _, z2⟩ => ?_) fun _ _ e => ?_
  · exact wpAny_pure ⟨τ, G2, I2, rfl, fun j v e => (wipe_some e).1, z2⟩
  · rw [hx] at e
    exact e
/-- a clause's rest that is the next clause -/
def tNext1 (wi : TI) (g : TG) (tt : TT) (tb : L2.St → Hp → (Hp → Prop) → Prop) (vs : List Nat) : L2.St → Hp → (Hp → Prop) → Prop := fun σ H Z => wi σ H fun J H1 => ClQ J g tt tb vs σ H1 Z
theorem rest_next {tg1 iter1 : Expr} {ifs1 : List Expr} {wi1 : TI} {g1 : TG} {tt1 : TT} {vs1 : List Nat} {rest1 : Sem Unit} {c : Comprehension} (hx : X.xe = fun _ _ => False) (hc : X.calm = true) (hs : ∀ x, foldedSetIterable iter1 X.env x = pure x) (hg : gens[d]? = some c) (ha : c.is_async = 0)
    (ht : ∀ it, compTurn (.SetComp elt gens scope pos) d it acc X.env = clTurn tg1 iter1 ifs1 X.env it rest1 (.compLoop (.SetComp elt gens scope pos) d it acc X.env))
    (pi1 : PI X tg1 iter1 wi1) (pg : PG X tg1 g1) (pt : PTs X ifs1 tt1) (pr : Rest X rest1 tb vs1) (sub : ∀ i ∈ vs1, i ∈ vs) :
    Rest X (do
      let x ← eval iter1 X.env
      standAt iter1.pos
      let x ← foldedSetIterable iter1 X.env x
      let _ ← runOwn (.compStart (.SetComp elt gens scope pos) d (← holding [x] (pyIter x)) acc X.env) X.env) (tNext1 wi1 g1 tt1 tb vs1) vs := by
  intro ps t τ G Y I q
  have h := pi1.run ps t τ G _ I q
  rw [hx] at h
  refine wpAny_bind (thnF h fun x t1 h1 => ?_)
  refine wpAny_bind (wpAny_standAt (wpAny_bind (wpAny_of_eq (hs x) (wpAny_bind (wpAny_holding (thnF h1 fun iv t2 h2 => ?_))))))
  obtain ⟨it1, fp1, tn1, J1, G2, e, I2, T1, st2, fo2, q2⟩ := h2
  subst e
  refine wpAny_bind (wpAny_runOwn ?_)
  rw [Around.mark_none]
  have keep : ∀ (j : Nat) v, (wipe τ vs)[j]? = some (some v) → (wipe τ vs1)[j]? = some (some v) := fun j v e => by
    obtain ⟨e1, e2⟩ := wipe_some e
    rw [wipe_out fun z => e2 (sub j z)]
    exact e1
  refine codeAny_mono (R := fun r t' => r = .ok .next ∧ ∃ G', Inv X ps (wipe τ vs1) G' t' ∧ Y G') (clause_start hg ha (clause_run hx hc (ht _) pg pt pr T1 (I2.weak (wipe_length _ _) fun j v e => (wipe_some e).1) st2 fo2 q2 fun t' G' I' z => ⟨rfl, G', I', z⟩) T1 st2) fun r t' ⟨er, G', I', z⟩ => ?_
  subst er
  have fin : ∃ σ' H', Inv X ps σ' H' t' ∧ σ'.length = τ.length ∧ (∀ (j : Nat) v, (wipe τ vs)[j]? = some (some v) → σ'[j]? = some (some v)) ∧ Y H' := ⟨_, G', I', wipe_length _ _, keep, z⟩
  first
    | exact wpAny_pure fin
    | exact wpAny_bind (wpAny_pure (wpAny_pure fin))
end
theorem turn_out {elt tg iter tg1 iter1 : Expr} {ifs ifs1 : List Expr} {scope : Scope} {pos : Pos} {it acc : Value} {env : Env} :
    compTurn (.SetComp elt [⟨tg, iter, ifs, 0⟩, ⟨tg1, iter1, ifs1, 0⟩] scope pos) 0 it acc env = clTurn tg iter ifs env it (do
      let x ← eval iter1 env
      standAt iter1.pos
      let x ← foldedSetIterable iter1 env x
      let _ ← runOwn (.compStart (.SetComp elt [⟨tg, iter, ifs, 0⟩, ⟨tg1, iter1, ifs1, 0⟩] scope pos) 1 (← holding [x] (pyIter x)) acc env) env) (.compLoop (.SetComp elt [⟨tg, iter, ifs, 0⟩, ⟨tg1, iter1, ifs1, 0⟩] scope pos) 0 it acc env) := by
  unfold clTurn
  simp only [bind_assoc, pure_bind]
  rfl
theorem turn_in {elt tg iter tg1 iter1 : Expr} {ifs ifs1 : List Expr} {scope : Scope} {pos : Pos} {it acc : Value} {env : Env} :
    compTurn (.SetComp elt [⟨tg, iter, ifs, 0⟩, ⟨tg1, iter1, ifs1, 0⟩] scope pos) 1 it acc env = clTurn tg1 iter1 ifs1 env it (do let v ← eval elt env; standAt elt.pos; let _ ← call (.builtin "set.add") [acc, v]) (.compLoop (.SetComp elt [⟨tg, iter, ifs, 0⟩, ⟨tg1, iter1, ifs1, 0⟩] scope pos) 1 it acc env) := by rfl
section
variable {X : Cx}
/-- {elt for tg in iter if .. for tg1 in iter1 if ..}, elt a whole number: D the new set -/
def tSc2 (w : World) (wi : TI) (g : TG) (tt : TT) (wi1 : TI) (g1 : TG) (tt1 : TT) (te : TE) (vs vs1 : List Nat) : TE := fun σ H Q => wi σ H fun J H1 => ∀ D, H1 D = none →
  ClQ J g tt (tNext1 wi1 g1 tt1 (tAdd w D te) vs1) vs σ (upd H1 D (SetO w D (fun _ => false) 0)) (Q (.ref D))
theorem pe_sc2 {elt tg iter tg1 iter1 : Expr} {ifs ifs1 : List Expr} {scope : Scope} {own : List (Str × Nat)} {vs1 : List Nat} {pos : Pos} {wi wi1 : TI} {g g1 : TG} {tt tt1 : TT} {te : TE} (hc : X.calm = true) (hN : X.N.Nodup) (hi : PI X tg iter wi) (ok : BlkOk X.N X.env.scope scope own) (sub : ∀ i ∈ vs1, i ∈ own.map (·.2))
    (pg : ∀ (s : Shared) (H : Hp) (C : Addr) (cl : List (Str × Addr)) (fp : List Addr), PG (X.blk s H scope (compEnvC scope cl C X.env) fp) tg g) (pt : ∀ (s : Shared) (H : Hp) (C : Addr) (cl : List (Str × Addr)) (fp : List Addr), PTs (X.blk s H scope (compEnvC scope cl C X.env) fp) ifs tt)
    (hi1 : ∀ (s : Shared) (H : Hp) (C : Addr) (cl : List (Str × Addr)) (fp : List Addr), PI (X.blk s H scope (compEnvC scope cl C X.env) fp) tg1 iter1 wi1)
    (pg1 : ∀ (s : Shared) (H : Hp) (C : Addr) (cl : List (Str × Addr)) (fp : List Addr), PG (X.blk s H scope (compEnvC scope cl C X.env) fp) tg1 g1) (pt1 : ∀ (s : Shared) (H : Hp) (C : Addr) (cl : List (Str × Addr)) (fp : List Addr), PTs (X.blk s H scope (compEnvC scope cl C X.env) fp) ifs1 tt1)
    (pe : ∀ (s : Shared) (H : Hp) (C : Addr) (cl : List (Str × Addr)) (fp : List Addr), PE (X.blk s H scope (compEnvC scope cl C X.env) fp) elt te) (hs : ∀ x, foldedSetIterable iter X.env x = pure x := by intro _; rfl) (hs1 : ∀ env x, foldedSetIterable iter1 env x = pure x := by intro _ _; rfl) :
    PE X (.SetComp elt [⟨tg, iter, ifs, 0⟩, ⟨tg1, iter1, ifs1, 0⟩] scope pos) (tSc2 X.w wi g tt wi1 g1 tt1 te (own.map (·.2)) vs1) := by
  refine ⟨fun pins s σ H Q I h => ?_⟩
  have closed : ∀ y ∈ scope.names, y.2 = .free → ∃ c, X.env.cells.lookup y.1 = some c := fun y hy e => (ok.free y hy e).elim (fun k => I.ok.has _ (.inl k)) fun k => I.ok.has _ (.inr k)
  show wpAny _ _ (comprehension (.SetComp elt [⟨tg, iter, ifs, 0⟩, ⟨tg1, iter1, ifs1, 0⟩] scope pos) scope X.env _ (newSet (.type "set")) _ (eval iter X.env)) _ _ s
  refine wpAny_comprehension_free (use := none) rfl hs (closure_ok closed) ok.kind (fun y hy e => by rw [ok.uniq y hy, e]) (thn (hi.run pins s σ H _ I h) fun xv t1 hx => thn hx fun iv t2 h2 => ?_)
  obtain ⟨it, fp, tn, J, H2, e, I2, T, st2, fo2, q⟩ := h2
  subst e
  refine PpSet.newSet_ok (newEnv_comp ?_)
  generalize hD : t2.heap.objs.size = D
  have q := q D (I2.hok.fresh (Nat.le_of_eq hD))
  generalize ht3 : ({ t2 with heap := t2.heap.push { cls := .type "set", dict := none, data := .set #[] 0 (.fresh 0 0 (!X.w.params.followText "set-order")) } } : Shared) = t3
  generalize hH3 : upd H2 D (SetO X.w D (fun _ => false) 0) = H3 at q
  have e3 : t3.heap = t2.heap.push { cls := .type "set", dict := none, data := .set #[] 0 (.fresh 0 0 (!X.w.params.followText "set-order")) } := by rw [← ht3]
  have I3 : Inv X pins σ H3 t3 := by
    rw [← ht3, ← hH3]
    refine I2.laid (t' := t2.toks) (fun b o e => Heap.get?_push_of_some _ e) (Nat.le_of_eq hD) ?_
    rw [← hD]
    exact setO_new (setR_fresh X.w)
  have young : ∀ b ∈ fp, b < t2.heap.objs.size := fun b hb => by
    obtain ⟨o, e, _⟩ := T.obj _ _ st2 b hb
    exact Heap.lt_size e
  have fo3 : ∀ b ∈ fp, FpOk X pins H3 b ∧ b < t3.heap.objs.size := fun b hb => by
    have lt := young b hb
    have ne : b ≠ D := by
      rw [← hD]
      exact Nat.ne_of_lt lt
    refine ⟨⟨?_, (fo2 b hb).2⟩, by rw [e3, Heap.size_push]; exact Nat.lt_succ_of_lt lt⟩
    rw [← hH3, upd_ne ne]
    exact (fo2 b hb).1
  have I4 := block_start I3 ok hN fo3
  generalize hcl : cellsFrom (t3.heap.objs.size + 1) scope.names (cloFrom X.env.cells scope.names []) = cl at I4
  have pg := pg t3 H3 t3.heap.objs.size cl fp
  have pt := pt t3 H3 t3.heap.objs.size cl fp
  have pi1 := hi1 t3 H3 t3.heap.objs.size cl fp
  have pg1 := pg1 t3 H3 t3.heap.objs.size cl fp
  have pt1 := pt1 t3 H3 t3.heap.objs.size cl fp
  have pe := pe t3 H3 t3.heap.objs.size cl fp
  show codeAny _ _ (.compStart (.SetComp elt [⟨tg, iter, ifs, 0⟩, ⟨tg1, iter1, ifs1, 0⟩] scope pos) 0 (.ref it) (.ref D) (compEnvC scope cl t3.heap.objs.size X.env)) _ { t3 with heap := pushCells (t3.heap.push { cls := .type "dict", data := .dict #[] }) scope.names }
  generalize ht4 : ({ t3 with heap := pushCells (t3.heap.push { cls := .type "dict", data := .dict #[] }) scope.names } : Shared) = t4 at I4 ⊢
  have st4 : tn 0 t4.heap := T.keep _ _ _ st2 fun b _ o e => by
    rw [← ht4]
    exact pushCells_keeps _ _ _ _ (Heap.get?_push_of_some _ (by rw [e3]; exact Heap.get?_push_of_some _ e))
  have fo4 : ∀ b ∈ fp, FpOk (X.blk t3 H3 scope (compEnvC scope cl t3.heap.objs.size X.env) fp) [] H3 b := fun b hb =>
    ⟨(fo3 b hb).1.1, (I4.ok.exf b hb).1, I4.ok.exfs b hb, .inl hb, fun x c e => (I4.ok.exf b hb).2 x c e, fun p hp => absurd (show p ∈ ([] : List (Addr × Obj)) ++ [] from hp) (by simp)⟩
  have run := clause_run (X := X.blk t3 H3 scope (compEnvC scope cl t3.heap.objs.size X.env) fp) (elt := elt) (gens := [⟨tg, iter, ifs, 0⟩, ⟨tg1, iter1, ifs1, 0⟩]) (scope := scope) (pos := pos) (d := 0) (acc := .ref D) (iter := iter) (R := compPost (model X.prog X.w) X.A X.xe none (EP X pins σ Q) (.ref D) t3.heap.objs.size) rfl hc turn_out pg pt
    (rest_next (X := X.blk t3 H3 scope (compEnvC scope cl t3.heap.objs.size X.env) fp) (elt := elt) (gens := [⟨tg, iter, ifs, 0⟩, ⟨tg1, iter1, ifs1, 0⟩]) (scope := scope) (pos := pos) (acc := .ref D) (iter1 := iter1) (d := 1) rfl hc (hs1 _) rfl rfl (fun _ => turn_in) pi1 pg1 pt1 (rest_add (X := X.blk t3 H3 scope (compEnvC scope cl t3.heap.objs.size X.env) fp) (D := D) rfl pe) sub) T I4 st4 fo4 q fun t5 H5 I5 z => ?_
  · exact clause_start (X := X.blk t3 H3 scope (compEnvC scope cl t3.heap.objs.size X.env) fp) (d := 0) rfl rfl run T st4
  · have nC : H5 t3.heap.objs.size = none := I5.free
    have back : Inv X pins σ H5 t5 := I3.call' (ch := fp) I5.os I5.base I5.hok I5.bare fun b hb => ⟨(fo3 b hb).1.2.2.2.1, (fo3 b hb).1.2.1, (fo3 b hb).1.2.2.2.2.1, (fo3 b hb).1.2.2.2.2.2⟩
    obtain ⟨m, hn, _⟩ := I5.loc
    obtain ⟨f0, f1, f2, f3, f4, f5⟩ := I3.fpOk (Nat.le_refl _) nC
    refine ⟨m, hn, fun h'' sb => ?_⟩
    exact ⟨.ref D, H5, back.turned (t' := t5.toks) (fun b o hb e => (sb.2 b hb).trans e) f0 f1 f3 f4 f5, rfl, z⟩
theorem w_sc2 {w : World} {wi wi1 : TI} {g g1 : TG} {tt tt1 : TT} {te : TE} {vs vs1 : List Nat} {σ : L2.St} {H : Hp} {Q : VK} (q : wi σ H fun J H1 => ∀ D, H1 D = none → ClQ J g tt (tNext1 wi1 g1 tt1 (tAdd w D te) vs1) vs σ (upd H1 D (SetO w D (fun _ => false) 0)) (Q (.ref D))) : tSc2 w wi g tt wi1 g1 tt1 te vs vs1 σ H Q := q
/-- a clause over a tuple that stands still -/
theorem cl_tup {K : PySem.W.Frag} {a : Addr} {xs : List V} {g : TG} {tt : TT} {tb : L2.St → Hp → (Hp → Prop) → Prop} {vs : List Nat} {σ : L2.St} {H : Hp} {Z : Hp → Prop} (Pv : Nat → Hp → Prop) (h0 : Pv 0 H) (hl : ∀ i H, i ≤ xs.length → Pv i H → SqT K H a xs)
    (step : ∀ i x H, xs[i]? = some x → Pv i H → g x (wipe σ vs) H fun σ2 H2 => wipe σ2 vs = wipe σ vs ∧ tt σ2 H2 fun b H3 => if b = true then tb σ2 H3 (Pv (i + 1)) else Pv (i + 1) H3) (last : ∀ H, Pv xs.length H → Z H) : ClQ (Itt K a) g tt tb vs σ H Z := by
  refine ⟨fun i m G => m = xs.length - i ∧ i ≤ xs.length ∧ Pv i G, ⟨_, rfl, Nat.zero_le _, h0⟩, ?_⟩
  rintro i m G ⟨rfl, hi, p⟩
  have sq := hl i G hi p
  rcases Nat.lt_or_ge i xs.length with lt | ge
  · refine .inr ⟨⟨xs, xs[i], sq, List.getElem?_eq_getElem lt⟩, Pv (i + 1), fun G' p' => ⟨_, by omega, rfl, lt, p'⟩, fun x G' ⟨e, y⟩ => ?_⟩
    subst e
    exact step i x G' (y xs sq) p
  · obtain rfl : i = xs.length := by omega
    exact .inl ⟨⟨xs, sq, Nat.le_refl _⟩, last G p⟩
end
end KG

set_option Elab.async false
set_option linter.all false
set_option maxRecDepth 100000
set_option maxHeartbeats 1000000
/-! KF: for i, c in enumerate(x), x a text. -/
namespace KG
open PySem PySem.Spec PySem.Calls PyProof.Rows L2
/-- the signs of x, each with its index in a new pair -/
def Iten (x : Str) : It :=
  ⟨fun i _ => i < x.cps.size, fun i H v H' => ∃ T c, v = .ref T ∧ H T = none ∧ H' = upd H T (.tup [.int (i : Nat), .str ⟨#[c]⟩]) ∧ x.cps[i]? = some c, fun i _ => i = x.cps.size⟩
theorem draws_str {prog : Program} {w : World} {A : Around} (hh : A.handled = none) (it : Addr) (x : Str) (t : Tok) :
    Draws prog w A it [it] x.cps.size (fun i v => ∃ c u, x.cps[i]? = some c ∧ v = .str ⟨#[c]⟩ u) (fun i h => h.IsStrIter it (strIterType x) x t i) := by
  unfold strIterType
  split
  · exact Draws.strAscii hh it x t
  · exact Draws.strWide hh it x t
theorem turn_enumS {P : Program} {w : World} {K : PySem.W.Frag} {elts : List Expr} {kk : Nat} {tpos : Pos} (x : Str) (t : Tok) (e it : Addr) :
    Turn P w K (.Tuple elts kk tpos) (Iten x) [e, it] e (fun i h => (∃ old, IsEnum h e it ((i : Nat) : Int) old) ∧ h.IsStrIter it (strIterType x) x t i ∧ e ≠ it) where
  mem := List.mem_cons_self
  obj := fun i h z b hb => by
    obtain ⟨⟨old, ee⟩, ⟨ob, e1, _, e3⟩, _⟩ := z
    rcases List.mem_cons.mp hb with q | q
    · exact ⟨_, q ▸ ee, fun v y => by cases y⟩
    · rw [List.mem_singleton.mp q]
      exact ⟨ob, e1, fun v y => by rw [e3] at y; cases y⟩
  keep := fun i h h' z k => by
    obtain ⟨⟨old, ee⟩, ⟨ob, e1, e2⟩, ne⟩ := z
    exact ⟨⟨old, k _ List.mem_cons_self _ ee⟩, ⟨ob, k _ (List.mem_cons_of_mem _ List.mem_cons_self) _ e1, e2⟩, ne⟩
  item := by
    intro X h1 h2 h3 hc i pins s σ H E I fo z go
    subst h1 h2 h3
    obtain ⟨⟨old, ee⟩, si, ne⟩ := z
    have le : e < s.heap.objs.size := Heap.lt_size ee
    have li : it < s.heap.objs.size := by
      obtain ⟨_, y, _⟩ := si
      exact Heap.lt_size y
    have nef : e ∉ [it] := fun y => ne (List.mem_singleton.mp y)
    have D := draws_str (prog := X.prog) (w := X.w) (A := X.A.in1) (I.ok.hd hc) it x t
    refine wpAny_pyNext_enum_itemD D ee si go ne nef fun u h' tk ⟨c, tu, ec, eu⟩ out si' ht _ kk => ?_
    subst eu
    refine ⟨_, rfl, wpAny_letOwnedTupleGo_enum (s := { s with heap := h', toks := tk + 1 }) out fun h'' ee' sb => ?_⟩
    have ht2 := (sb.2 _ (Nat.ne_of_gt le)).trans ht
    have made : ObjOk X.prog X.w (upd H s.heap.objs.size (.tup [.int (i : Nat), .str ⟨#[c]⟩])) h'' s.heap.objs.size (.tup [.int (i : Nat), .str ⟨#[c]⟩]) :=
      ⟨by show 2 ≤ sizeLine; decide, [.int i tk, .str ⟨#[c]⟩ tu], .cons ⟨_, rfl⟩ (.cons ⟨_, rfl⟩ .nil), ⟨_, ht2, rfl, _, rfl⟩⟩
    have I2 := I.turnedNew (t' := tk + 1) (ch := [e, it]) (fun b ob hb y => by
      have n1 : b ≠ e := fun q => hb (by rw [q]; exact List.mem_cons_self)
      have n2 : b ≠ it := fun q => hb (by rw [q]; exact List.mem_cons_of_mem _ List.mem_cons_self)
      exact (sb.2 b n1).trans (kk b ob n1 n2 y)) fo (Nat.le_refl _) made
    refine ⟨.ref s.heap.objs.size, _, I2, rfl, ⟨_, c, rfl, I.hok.fresh (Nat.le_refl _), rfl, ec⟩, ⟨⟨.str ⟨#[c]⟩ tu, ?_⟩, ?_, ne⟩, fun b hb => ?_⟩
    · have e1 : ((i + 1 : Nat) : Int) = (i : Int) + 1 := by omega
      rw [e1]
      exact ee'
    · obtain ⟨ob, y, r⟩ := si'
      exact ⟨ob, (sb.2 it ne.symm).trans y, r⟩
    · have lb : b < s.heap.objs.size := by
        rcases List.mem_cons.mp hb with q | q
        · exact q ▸ le
        · exact (List.mem_singleton.mp q) ▸ li
      rw [upd_ne (Nat.ne_of_lt lb)]
      exact (fo b hb).1
  done := by
    intro X h1 h2 h3 hc i pins s σ H E I fo z stop
    subst h1 h2 h3
    obtain rfl : i = x.cps.size := stop
    obtain ⟨⟨old, ee⟩, si, ne⟩ := z
    obtain ⟨g0, g1, g2, g3, g4, g5⟩ := fo it (List.mem_cons_of_mem _ List.mem_cons_self)
    have D := draws_str (prog := X.prog) (w := X.w) (A := X.A.in1) (I.ok.hd hc) it x t
    exact wpAny_pyNext_enum_endD D ee si fun h' k => ⟨rfl, I.turned (t' := s.toks) (fun b o hb y => k b o hb y) g0 g1 g3 g4 g5⟩
  self := fun A i s Q E z h => by
    obtain ⟨⟨_, ee⟩, _⟩ := z
    exact wpAny_pyIter_enum ee h
def iEnumS (ta : TA) : TI := fun σ H R => ta σ H fun vs H1 => ∃ x, vs = [.str x] ∧ R (Iten x) H1
theorem pi_enumS {X : Cx} {e : Expr} {ta : TA} {p pos tpos : Pos} {elts : List Expr} {kk : Nat} (hg : Gl X "enumerate") (hm : X.mg "enumerate" = none) (ha : PA X [e] ta) (hs : starEach [e] X.env = [(false, eval e X.env)] := by rfl) :
    PI X (.Tuple elts kk tpos) (.Call (.Name "enumerate" p) [e] [] pos) (iEnumS ta) := by
  refine ⟨fun pins s σ H R I h => Call_ (ld_blt I hg hm boot_enumerate (PyProof.Rows.callWith_type1 (thn (ha.run pos pins s σ H _ I h) fun us t ⟨vs, H1, I1, r, x, ev, q⟩ => ?_) hs rfl))⟩
  subst ev
  obtain ⟨u, eu, ru⟩ := vals1 r
  obtain ⟨tx, rfl⟩ := ru
  have eu' : us = [.str x tx] := eu
  subst eu'
  refine call_enumerate_str fun h' ee si sz k => wpAny_pyIter_enum ee ?_
  have I2 : Inv X pins σ H1 { t with heap := h' } := I1.kept (t' := t.toks) k
  refine ⟨_, [t.heap.objs.size + 1, t.heap.objs.size], _, _, H1, rfl, I2, turn_enumS x tx _ _, ⟨⟨_, ee⟩, si, Nat.succ_ne_self _⟩, fun b hb => ?_, q⟩
  have ge : t.heap.objs.size ≤ b := by
    rcases List.mem_cons.mp hb with y | y
    · rw [y]
      exact Nat.le_succ _
    · exact Nat.le_of_eq (List.mem_singleton.mp y).symm
  exact I1.fpOk ge (I1.hok.fresh ge)
end KG

set_option Elab.async false
set_option linter.all false
set_option maxRecDepth 100000
set_option maxHeartbeats 1000000
/-! KW2: classmethods with defaults, by keywords alone; an own object called by keywords alone. -/
namespace KG
open PySem PySem.Spec PySem.Calls PyProof.Rows L2
section
variable {X : Cx} {CX : CXT} {k : Nat} {C p g f : Addr} {mc : Value} {fd : FuncData} {ps ks : List Str} {sp : Sp} {E : XK} {o e : Expr} {es : List Expr} {kws : List Keyword} {m x : Str} {pos apos : Pos} {ta : TE} {t tk : TA} {dvs : List V} {ds : List Value} {gg : List Value → List Value → List Value} {gV : List V → List V → List V}
/-- o.m(e, ..), o the class, m a classmethod, the last arguments by default -/
def tCmD (C : Addr) (sp : Sp) (dvs : List V) (E : XK) (ta : TE) (t : TA) : TE := fun σ H Q => ta σ H fun x H1 => x = .ref C ∧ t σ H1 fun vs H2 => sp (.ref C :: (vs ++ dvs)) H2 Q E
theorem run_cm {q : Addr} {pins : List (Addr × Obj)} {σ : L2.St} {H : Hp} {s : Shared} {Q : VK} {us zs : List Value} {kw : List (Str × Value)} {vs : List V} (F : Gd X.prog X.w X.K X.mg X.base CX k g fd ps sp) (rm : Room k X.A) (gd : X.A.guards = some []) (hx : Passes CX X E)
    (J : Inv X ((q, PySem.W.methodObj (.ref g) (.ref C)) :: pins) σ H s) (bt : BindsTo s fd ⟨.ref C :: us, kw⟩ (ps.zip zs)) (r : Vals vs zs) (z : sp vs H Q E) : wpAny (model X.prog X.w) X.A (call (.ref q) us kw) (EP X pins σ Q) X.xe s := by
  have run : wpAny (model X.prog X.w) X.A (call (.ref q) us kw) (EP X ((q, PySem.W.methodObj (.ref g) (.ref C)) :: pins) σ Q) X.xe s := by
    refine wpAny_call (PySem.W.method_call (ClX.pin_at J) (codeAny_mono (F.go X.A X.stack s H ⟨.ref C :: us, kw⟩ zs vs Q E rm gd J.env0 bt r z) fun out s4 z4 => ?_))
    match out, z4 with
    | .error er, z4 => exact hx _ σ H s er s4 J z4
    | .ok (.ret v), z4 => exact J.after z4
  exact thn run fun _ _ y => ClX.unpinE y
theorem pe_gcmD {pl : Sem Bool} (he : PE X o ta) (r : ClX.CRead X.K C mc) (c : ClX.CMet X.K C mc m p g) (F : Gd X.prog X.w X.K X.mg X.base CX k g fd ps sp) (rm : Room k X.A) (gd : X.A.guards = some []) (hb : Binds X.K fd ps ds) (hd : Vals dvs ds) (hx : Passes CX X E) (ha : PA X (e :: es) t)
    (hst : starEach (e :: es) X.env = (false, eval e X.env) :: starEach es X.env := by rfl) (hpl : (backTo pos (starEach es X.env)).any (·.1) = false := by rfl)
    (ht : eval (.Call (.Attribute o m apos) (e :: es) [] pos) X.env = (do
      let w ← eval o X.env
      standAt apos.atName
      let (g, a) ← holding [w] (getMethod w m pl)
      callWith pos g a (backTo pos (starEach (e :: es) X.env)) (backToKw pos (keywordEach [] X.env))) := by rfl) :
    PE X (.Call (.Attribute o m apos) (e :: es) [] pos) (tCmD C sp dvs E ta t) := by
  refine ⟨fun pins s σ H Q I z => PySem.W.methodCall_KW (pl := pl) (thn (he.run pins s σ H _ I z) fun u s1 z1 => ?_) ht⟩
  obtain ⟨_, H1, J, ru, rfl, q⟩ := z1
  obtain rfl : u = Value.ref C := ru
  refine ClX.getmethcm_ok J r c fun s2 J2 => ClX.callwith_cm J2 (ClX.base_none J (Nat.le_refl _)) c.fi (thn (ha.run pos _ s2 σ H1 _ J2 q) fun us s3 z3 => ?_) hst hpl
  obtain ⟨vs, H2, J3, rv, q2⟩ := z3
  have all : Vals (V.ref C :: (vs ++ dvs)) (Value.ref C :: (us ++ ds)) := .cons rfl (rv.append hd)
  have bt : BindsTo s3 fd ⟨.ref C :: us, []⟩ (ps.zip (.ref C :: (us ++ ds))) := hb s3 (.ref C :: us) J3.kIn (by
    have := F.len _ _ _ _ q2
    rw [all.length] at this
    exact this)
  exact ⟨⟨ClX.pin_at J3, J3.kIn⟩, run_cm F rm gd hx J3 bt all q2⟩
/-- o.m(k = v, ..), o the class, m a classmethod -/
def tCmK (C : Addr) (j : Nat) (sp : Sp) (gV : List V → List V → List V) (E : XK) (ta : TE) (tk : TA) : TE := fun σ H Q => ta σ H fun x H1 => x = .ref C ∧ tk σ H1 fun zs H2 => zs.length = j ∧ sp (gV [.ref C] zs) H2 Q E
theorem pe_gcmK {pl : Sem Bool} (he : PE X o ta) (r : ClX.CRead X.K C mc) (c : ClX.CMet X.K C mc m p g) (F : Gd X.prog X.w X.K X.mg X.base CX k g fd ps sp) (rm : Room k X.A) (gd : X.A.guards = some []) (hb : KBn X.K fd ps 1 ks gg gV) (hx : Passes CX X E) (hkw : PK X kws tk)
    (hall : (backToKw pos (keywordEach kws X.env)).all (·.1.isSome) = true := by rfl) (hks : (backToKw pos (keywordEach kws X.env)).filterMap (·.1) = ks := by rfl)
    (hpl : ((backTo pos (starEach [] X.env)).any (·.1) || (backToKw pos (keywordEach kws X.env)).any (·.1.isNone)) = false := by rfl)
    (ht : eval (.Call (.Attribute o m apos) [] kws pos) X.env = (do
      let w ← eval o X.env
      standAt apos.atName
      let (g, a) ← holding [w] (getMethod w m pl)
      callWith pos g a (backTo pos (starEach [] X.env)) (backToKw pos (keywordEach kws X.env))) := by rfl) :
    PE X (.Call (.Attribute o m apos) [] kws pos) (tCmK C ks.length sp gV E ta tk) := by
  refine ⟨fun pins s σ H Q I z => PySem.W.methodCall_KW (pl := pl) (thn (he.run pins s σ H _ I z) fun u s1 z1 => ?_) ht⟩
  obtain ⟨_, H1, J, ru, rfl, q⟩ := z1
  obtain rfl : u = Value.ref C := ru
  refine ClX.getmethcm_ok J r c fun s2 J2 => ?_
  refine PySem.W.callWith_of hpl (PySem.W.keeps_M (self := .ref C) c.fi) (evalArgs_kw2_nil hall (thn (hkw.run pos _ s2 σ H1 _ J2 q) fun ws s3 z3 => ?_))
  obtain ⟨zs, H2, J3, rz, lz, q2⟩ := z3
  refine ⟨⟨ClX.pin_at J3, J3.kIn⟩, ?_⟩
  rw [hks]
  have r1 : Vals [V.ref C] [Value.ref C] := .cons rfl .nil
  exact run_cm F rm gd hx J3 (hb.to s3 [.ref C] ws J3.kIn rfl (rz.length.symm.trans lz)) (hb.rel r1 rz) q2
/-- o(k = v, ..), o an own object that a name holds -/
def tOwnK (C : Addr) (j : Nat) (sp : Sp) (gV : List V → List V → List V) (E : XK) (n : Nat) (tk : TA) : TE := fun σ H Q => ∃ a : Addr, σ[n]? = some (some (.ref a)) ∧ tk σ H fun zs H1 => zs.length = j ∧ ∃ dx fs, H1 a = some (.ins C dx fs) ∧ sp (gV [.ref a] zs) H1 Q E
theorem pe_ownK {n : Nat} (O : PySem.W.findIn X.K (.ref C) "__call__" = some (some (.ref f))) (fn : PySem.W.isFn X.K (.ref f) = true) (fi : PySem.W.fnIn X.K f = true) (F : Gd X.prog X.w X.K X.mg X.base CX k f fd ps sp) (rm : Room k X.A) (gd : X.A.guards = some []) (hb : KBn X.K fd ps 1 ks gg gV) (hx : Passes CX X E)
    (hv : PE X (.Name x apos) (tVar n)) (hkw : PK X kws tk) (hall : (backToKw pos (keywordEach kws X.env)).all (·.1.isSome) = true := by rfl) (hks : (backToKw pos (keywordEach kws X.env)).filterMap (·.1) = ks := by rfl)
    (hpl : ((backTo pos (starEach [] X.env)).any (·.1) || (backToKw pos (keywordEach kws X.env)).any (·.1.isNone)) = false := by rfl) :
    PE X (.Call (.Name x apos) [] kws pos) (tOwnK C ks.length sp gV E n tk) := by
  refine ⟨fun pins s σ H Q I z => ?_⟩
  obtain ⟨a, ea, q⟩ := z
  refine wpAny_Call_Name_kw (thn (hv.run pins s σ H (fun v H' => v = .ref a ∧ tk σ H' fun zs H1 => zs.length = ks.length ∧ ∃ dx fs, H1 a = some (.ins C dx fs) ∧ sp (gV [.ref a] zs) H1 Q E) I ⟨_, ea, rfl, q⟩) fun u s1 z1 => ?_)
  obtain ⟨_, H1, J, ru, rfl, q1⟩ := z1
  obtain rfl : u = Value.ref a := ru
  have body : wpAny (model X.prog X.w) X.A (evalArgs (.ref a) true (backTo pos (starEach [] X.env)) (backToKw pos (keywordEach kws X.env))) (fun b s2 => (∃ ox od, PySem.W.InstAt s2.heap a ox C od ∧ ox.data = .plain) ∧ wpAny (model X.prog X.w) X.A (call (.ref a) b.pos b.kw) (EP X pins σ Q) X.xe s2) X.xe s1 := by
    refine evalArgs_kw2_nil hall (thn (hkw.run pos pins s1 σ H1 _ J q1) fun ws s2 z2 => ?_)
    obtain ⟨zs, H2, J2, rz, lz, dx, fs, ha, q2⟩ := z2
    obtain ⟨mA, Z, _⟩ := ins_get J2.hok ha
    obtain ⟨od, Z, zd⟩ := Z.look
    refine ⟨⟨_, od, Z, by first | exact zd | rfl⟩, wpAny_call (PySem.W.kco_code J2.kIn Z (by first | exact zd | rfl) O fn fi ?_)⟩
    rw [hks]
    have r1 : Vals [V.ref a] [Value.ref a] := .cons rfl .nil
    refine codeAny_mono (F.go X.A X.stack s2 H2 ⟨[.ref a], ks.zip ws⟩ _ _ _ E rm gd J2.env0 (hb.to s2 [.ref a] ws J2.kIn rfl (rz.length.symm.trans lz)) (hb.rel r1 rz) q2) fun out s' hq => ?_
    match out, hq with
    | .error e, hq => exact hx pins σ H2 s2 e s' J2 hq
    | .ok (.ret v), hq => exact J2.after hq
  unfold callWith
  refine wpAny_bind (wpAny_holding (wpAny_mono body (fun b s2 z2 => wpAny_bind (wpAny_standAt ?_)) fun _ _ y => y))
  obtain ⟨⟨ox, od, Z, zd⟩, run⟩ := z2
  simp only [hpl]
  refine wpAny_bind ((PySem.W.kco_keeper (M := model X.prog X.w) Z zd).here ?_)
  have behind : ∀ {tt : Sem Value}, wpAny (model X.prog X.w) X.A tt (EP X pins σ Q) X.xe s2 → wpAny (model X.prog X.w) X.A (tt >>= fun r => holding [r] point >>= fun _ => pure r) (EP X pins σ Q) X.xe s2 := fun y =>
    wpAny_bind (wpAny_mono y (fun r s3 y3 => wpAny_bind (wpAny_holding (wpAny_point (wpAny_pure y3)))) fun _ _ y3 => y3)
  exact behind (wpAny_operateT run)
end
end KG

set_option Elab.async false
set_option linter.all false
set_option maxRecDepth 100000
set_option maxHeartbeats 4000000
namespace Law
open PySem PySem.Spec PySem.Calls PyProof.Rows L2 KG LamX
local macro_rules | `(tactic| walk_at "1") => `(tactic| first
  | (with_reducible refine w_var rfl ?_) | (with_reducible refine w_c ?_) | (with_reducible refine w_seq ?_) | (with_reducible refine w_asg ?_) | (with_reducible refine w_gname ?_) | (with_reducible refine w_op ?_) | (with_reducible refine w_un ?_)
  | (with_reducible refine w_add ?_) | (with_reducible refine w_sub ?_) | ((with_reducible refine' w_mod ?mo ?_); (case mo => first | assumption | decide | omega)) | (with_reducible refine w_and ?_) | (with_reducible refine w_or ?_) | (with_reducible refine w_xor ?_)
  | (with_reducible refine w_gt ?_) | (with_reducible refine w_lt ?_) | (with_reducible refine w_ge ?_) | (with_reducible refine w_le ?_) | ((with_reducible refine' w_eq ?sc ?_); (case sc => rfl)) | ((with_reducible refine' w_ne ?sc ?_); (case sc => rfl))
  | (with_reducible refine w_ret ?_) | (with_reducible refine w_next ?_) | (with_reducible refine w_ifs ?_) | (with_reducible refine w_ifx ?_) | (with_reducible refine w_test ?_) | (with_reducible refine w_tB ?_) | (with_reducible refine w_bl ?_)
  | ((with_reducible refine' w_ixL ?ixh ?ixa ?_); (case ixh => first | exact SqL.of (by assumption)); (case ixa => first | rfl | skip)) | ((with_reducible refine' w_ixT ?ixh ?ixa ?_); (case ixh => first | exact SqT.of (by assumption)); (case ixa => first | rfl | skip))
  | ((with_reducible refine' w_fld ?_)) | ((with_reducible refine' fld ?fh ?fc ?fn ?fl ?_); (case fh => assumption); (case fc => assumption); (case fn => assumption); (case fl => rfl)) | (with_reducible refine w_sfld ?_)
  | (with_reducible refine Or.inl ⟨_, rfl, ?_⟩) | (with_reducible refine w_gsub ?_) | (with_reducible refine w_andV ?_) | (with_reducible refine w_orV ?_)
  | (with_reducible refine w_nil ?_) | (with_reducible refine w_cons ?_) | (with_reducible refine w_tup ?_) | (with_reducible refine w_lst ?_) | (with_reducible refine w_and2 ?_) | (with_reducible refine w_or2 ?_) | (with_reducible refine w_not ?_) | (with_reducible refine w_cb ?_) | (with_reducible refine w_call ?_) | (with_reducible refine w_par ?_) | (with_reducible refine w_pnil ?_) | (with_reducible refine w_pcons ?_) | (with_reducible refine w_dput ?_) | (with_reducible refine w_dget ?_) | (with_reducible refine w_for ?_) | (with_reducible refine w_itup ?_) | (with_reducible refine w_ilist ?_) | (with_reducible refine w_irng ?_) | (with_reducible refine w_meth ?_) | (with_reducible refine w_make ?_) | (with_reducible refine w_makeK ?_) | (with_reducible refine w_methK ?_) | ((with_reducible refine' mth ?mh ?ml ?_); (case mh => assumption); (case ml => rfl)) | (with_reducible refine w_drop ?_))
local macro_rules | `(tactic| walk_at "go") => `(tactic| ((repeat (walk_at "1")); try dsimp only))
local macro_rules | `(tactic| walk_at "1") => `(tactic| first
  | (with_reducible refine w_notV ?_) | (with_reducible refine w_callK ?_) | (with_reducible refine w_lc ?_) | (with_reducible refine w_chain ?_) | (with_reducible refine w_neg ?_) | ((with_reducible refine' w_shr ?mo ?_); (case mo => first | assumption | omega)))
def top (i : Nat) : Stmt := PySem.Challenge.pw_keptbits_k19_fields_made.main.body.getD i (.Pass ⟨0, 0, 0, 0⟩)
abbrev s_InvalidKind___init__ : Stmt := inClass (top 3) 0
theorem sc_InvalidKind___init__ : ScS ["self", "value"] ["self", "value"] (defScope s_InvalidKind___init__) := ⟨rfl, rfl, rfl, rfl, by decide +kernel, by decide +kernel, by decide +kernel, by decide +kernel, rfl, rfl⟩
abbrev s_InvalidField___init__ : Stmt := inClass (top 4) 0
theorem sc_InvalidField___init__ : ScS ["self", "name", "reason"] ["self", "name", "reason"] (defScope s_InvalidField___init__) := ⟨rfl, rfl, rfl, rfl, by decide +kernel, by decide +kernel, by decide +kernel, by decide +kernel, rfl, rfl⟩
abbrev s_Kind___init__ : Stmt := inClass (top 7) 3
theorem sc_Kind___init__ : FnScope ["self", "reading", "writing", "device", "value", "words"] ["self", "reading", "writing", "device"] (defScope s_Kind___init__) := ⟨rfl, rfl, rfl, by decide +kernel, rfl, by decide +kernel, by decide +kernel⟩
theorem bd_Kind___init__ : BindOk "__init__" "Kind.__init__" s_Kind___init__ ["self", "reading", "writing", "device"] := fun _ _ _ _ _ _ us hl => match us, hl with | [_, _, _, _], _ => rfl
abbrev s_Kind___eq__ : Stmt := inClass (top 7) 8
theorem sc_Kind___eq__ : FnScope ["self", "other"] ["self", "other"] (defScope s_Kind___eq__) := ⟨rfl, rfl, rfl, by decide +kernel, rfl, by decide +kernel, by decide +kernel⟩
theorem bd_Kind___eq__ : BindOk "__eq__" "Kind.__eq__" s_Kind___eq__ ["self", "other"] := fun _ _ _ _ _ _ us hl => match us, hl with | [_, _], _ => rfl
abbrev s_is_int : Stmt := top 12
theorem sc_is_int : FnScope ["value"] ["value"] (defScope s_is_int) := ⟨rfl, rfl, rfl, by decide +kernel, rfl, by decide +kernel, by decide +kernel⟩
theorem bd_is_int : BindOk "is_int" "is_int" s_is_int ["value"] := fun _ _ _ _ _ _ us hl => match us, hl with | [_], _ => rfl
abbrev s_full_word : Stmt := top 13
theorem sc_full_word : FnScope ["size"] ["size"] (defScope s_full_word) := ⟨rfl, rfl, rfl, by decide +kernel, rfl, by decide +kernel, by decide +kernel⟩
theorem bd_full_word : BindOk "full_word" "full_word" s_full_word ["size"] := fun _ _ _ _ _ _ us hl => match us, hl with | [_], _ => rfl
abbrev s_is_word : Stmt := top 14
theorem sc_is_word : FnScope ["value", "size"] ["value", "size"] (defScope s_is_word) := ⟨rfl, rfl, rfl, by decide +kernel, rfl, by decide +kernel, by decide +kernel⟩
theorem bd_is_word : BindOk "is_word" "is_word" s_is_word ["value", "size"] := fun _ _ _ _ _ _ us hl => match us, hl with | [_, _], _ => rfl
abbrev s_has_only : Stmt := top 15
theorem sc_has_only : FnScope ["value", "letters", "letter"] ["value", "letters"] (defScope s_has_only) := ⟨rfl, rfl, rfl, by decide +kernel, rfl, by decide +kernel, by decide +kernel⟩
theorem bd_has_only : BindOk "has_only" "has_only" s_has_only ["value", "letters"] := fun _ _ _ _ _ _ us hl => match us, hl with | [_, _], _ => rfl
abbrev s_is_name : Stmt := top 16
theorem sc_is_name : FnScope ["value"] ["value"] (defScope s_is_name) := ⟨rfl, rfl, rfl, by decide +kernel, rfl, by decide +kernel, by decide +kernel⟩
theorem bd_is_name : BindOk "is_name" "is_name" s_is_name ["value"] := fun _ _ _ _ _ _ us hl => match us, hl with | [_], _ => rfl
abbrev s_is_place : Stmt := top 21
theorem sc_is_place : FnScope ["low", "size"] ["low", "size"] (defScope s_is_place) := ⟨rfl, rfl, rfl, by decide +kernel, rfl, by decide +kernel, by decide +kernel⟩
theorem bd_is_place : BindOk "is_place" "is_place" s_is_place ["low", "size"] := fun _ _ _ _ _ _ us hl => match us, hl with | [_, _], _ => rfl
abbrev s_is_reset : Stmt := top 22
theorem sc_is_reset : FnScope ["reset", "size", "device"] ["reset", "size", "device"] (defScope s_is_reset) := ⟨rfl, rfl, rfl, by decide +kernel, rfl, by decide +kernel, by decide +kernel⟩
theorem bd_is_reset : BindOk "is_reset" "is_reset" s_is_reset ["reset", "size", "device"] := fun _ _ _ _ _ _ us hl => match us, hl with | [_, _, _], _ => rfl
abbrev s_Field___init__ : Stmt := inClass (top 23) 0
theorem sc_Field___init__ : FnScope ["self", "name", "low", "size", "reading", "writing", "device", "reset", "lock", "key", "commit", "held", "reason", "partner"] ["self", "name", "low", "size", "reading", "writing", "device", "reset", "lock", "key", "commit", "held"] (defScope s_Field___init__) := ⟨rfl, rfl, rfl, by decide +kernel, rfl, by decide +kernel, by decide +kernel⟩
abbrev s_Field_may_be_held : Stmt := inClass (top 23) 1
theorem sc_Field_may_be_held : FnScope ["self"] ["self"] (defScope s_Field_may_be_held) := ⟨rfl, rfl, rfl, by decide +kernel, rfl, by decide +kernel, by decide +kernel⟩
theorem bd_Field_may_be_held : BindOk "may_be_held" "Field.may_be_held" s_Field_may_be_held ["self"] := fun _ _ _ _ _ _ us hl => match us, hl with | [_], _ => rfl
abbrev s_Field___eq__ : Stmt := inClass (top 23) 2
theorem sc_Field___eq__ : FnScope ["self", "other"] ["self", "other"] (defScope s_Field___eq__) := ⟨rfl, rfl, rfl, by decide +kernel, rfl, by decide +kernel, by decide +kernel⟩
theorem bd_Field___eq__ : BindOk "__eq__" "Field.__eq__" s_Field___eq__ ["self", "other"] := fun _ _ _ _ _ _ us hl => match us, hl with | [_, _], _ => rfl
abbrev s__law_pen : Stmt := top 25
theorem sc__law_pen : FnScope ["_law_script"] ["_law_script"] (defScope s__law_pen) := ⟨rfl, rfl, rfl, by decide +kernel, rfl, by decide +kernel, by decide +kernel⟩
theorem bd__law_pen : BindOk "_law_pen" "_law_pen" s__law_pen ["_law_script"] := fun _ _ _ _ _ _ us hl => match us, hl with | [_], _ => rfl
abbrev s__law_draw : Stmt := top 26
theorem sc__law_draw : FnScope ["_law_pen_here", "_law_many", "_law_digit", "_law_at", "_law_cell", "_law_large", "_law_mixed"] ["_law_pen_here", "_law_many"] (defScope s__law_draw) := ⟨rfl, rfl, rfl, by decide +kernel, rfl, by decide +kernel, by decide +kernel⟩
theorem bd__law_draw : BindOk "_law_draw" "_law_draw" s__law_draw ["_law_pen_here", "_law_many"] := fun _ _ _ _ _ _ us hl => match us, hl with | [_, _], _ => rfl
abbrev s__law_same : Stmt := top 27
theorem sc__law_same : FnScope ["_law_told", "_law_due_here", "_law_one", "_law_other_here"] ["_law_told", "_law_due_here"] (defScope s__law_same) := ⟨rfl, rfl, rfl, by decide +kernel, rfl, by decide +kernel, by decide +kernel⟩
theorem bd__law_same : BindOk "_law_same" "_law_same" s__law_same ["_law_told", "_law_due_here"] := fun _ _ _ _ _ _ us hl => match us, hl with | [_, _], _ => rfl
abbrev s__law_name : Stmt := top 28
theorem sc__law_name : FnScope ["_law_pen_here", "_law_signs", "_law_step"] ["_law_pen_here"] (defScope s__law_name) := ⟨rfl, rfl, rfl, by decide +kernel, rfl, by decide +kernel, by decide +kernel⟩
theorem bd__law_name : BindOk "_law_name" "_law_name" s__law_name ["_law_pen_here"] := fun _ _ _ _ _ _ us hl => match us, hl with | [_], _ => rfl
abbrev s__law_is_name : Stmt := top 29
theorem sc__law_is_name : FnScope ["_law_value", "_law_capitals", "_law_sign"] ["_law_value"] (defScope s__law_is_name) := ⟨rfl, rfl, rfl, by decide +kernel, rfl, by decide +kernel, by decide +kernel⟩
theorem bd__law_is_name : BindOk "_law_is_name" "_law_is_name" s__law_is_name ["_law_value"] := fun _ _ _ _ _ _ us hl => match us, hl with | [_], _ => rfl
abbrev s__law_is_from : Stmt := top 30
theorem sc__law_is_from : FnScope ["_law_value", "_law_least", "_law_most"] ["_law_value", "_law_least", "_law_most"] (defScope s__law_is_from) := ⟨rfl, rfl, rfl, by decide +kernel, rfl, by decide +kernel, by decide +kernel⟩
theorem bd__law_is_from : BindOk "_law_is_from" "_law_is_from" s__law_is_from ["_law_value", "_law_least", "_law_most"] := fun _ _ _ _ _ _ us hl => match us, hl with | [_, _, _], _ => rfl
abbrev s__law_right : Stmt := top 31
theorem sc__law_right : FnScope ["_law_pen_here", "_law_choice", "_law_span", "_law_base", "_law_got", "_law_put", "_law_own", "_law_begin", "_law_others", "_law_step"] ["_law_pen_here"] (defScope s__law_right) := ⟨rfl, rfl, rfl, by decide +kernel, rfl, by decide +kernel, by decide +kernel⟩
theorem bd__law_right : BindOk "_law_right" "_law_right" s__law_right ["_law_pen_here"] := fun _ _ _ _ _ _ us hl => match us, hl with | [_], _ => rfl
abbrev s__law_odd : Stmt := top 32
theorem sc__law_odd : FnScope ["_law_pen_here", "_law_some"] ["_law_pen_here"] (defScope s__law_odd) := ⟨rfl, rfl, rfl, by decide +kernel, rfl, by decide +kernel, by decide +kernel⟩
theorem bd__law_odd : BindOk "_law_odd" "_law_odd" s__law_odd ["_law_pen_here"] := fun _ _ _ _ _ _ us hl => match us, hl with | [_], _ => rfl
abbrev s__law_spoil : Stmt := top 33
theorem sc__law_spoil : FnScope ["_law_pen_here", "_law_parts", "_law_at", "_law_near"] ["_law_pen_here", "_law_parts"] (defScope s__law_spoil) := ⟨rfl, rfl, rfl, by decide +kernel, rfl, by decide +kernel, by decide +kernel⟩
theorem bd__law_spoil : BindOk "_law_spoil" "_law_spoil" s__law_spoil ["_law_pen_here", "_law_parts"] := fun _ _ _ _ _ _ us hl => match us, hl with | [_, _], _ => rfl
abbrev s__law_due : Stmt := top 34
theorem sc__law_due : FnScope ["_law_parts", "_law_words", "_law_k"] ["_law_parts"] (defScope s__law_due) := ⟨rfl, rfl, rfl, by decide +kernel, rfl, by decide +kernel, by decide +kernel⟩
theorem bd__law_due : BindOk "_law_due" "_law_due" s__law_due ["_law_parts"] := fun _ _ _ _ _ _ us hl => match us, hl with | [_], _ => rfl
abbrev s__law_make : Stmt := top 35
theorem sc__law_make : FnScope ["_law_parts"] ["_law_parts"] (defScope s__law_make) := ⟨rfl, rfl, rfl, by decide +kernel, rfl, by decide +kernel, by decide +kernel⟩
theorem bd__law_make : BindOk "_law_make" "_law_make" s__law_make ["_law_parts"] := fun _ _ _ _ _ _ us hl => match us, hl with | [_], _ => rfl
abbrev s__law_refused : Stmt := top 36
theorem sc__law_refused : FnScope ["_law_parts", "_law_told", "e"] ["_law_parts"] (defScope s__law_refused) := ⟨rfl, rfl, rfl, by decide +kernel, rfl, by decide +kernel, by decide +kernel⟩
theorem bd__law_refused : BindOk "_law_refused" "_law_refused" s__law_refused ["_law_parts"] := fun _ _ _ _ _ _ us hl => match us, hl with | [_], _ => rfl
abbrev s__law_attributes : Stmt := top 37
theorem sc__law_attributes : FnScope ["_law_made"] ["_law_made"] (defScope s__law_attributes) := ⟨rfl, rfl, rfl, by decide +kernel, rfl, by decide +kernel, by decide +kernel⟩
theorem bd__law_attributes : BindOk "_law_attributes" "_law_attributes" s__law_attributes ["_law_made"] := fun _ _ _ _ _ _ us hl => match us, hl with | [_], _ => rfl
abbrev s__law_other_kind : Stmt := top 38
theorem sc__law_other_kind : FnScope ["_law_pen_here", "_law_parts", "_law_choice", "_law_other_here", "_law_at", "_law_some"] ["_law_pen_here", "_law_parts", "_law_choice"] (defScope s__law_other_kind) := ⟨rfl, rfl, rfl, by decide +kernel, rfl, by decide +kernel, by decide +kernel⟩
theorem bd__law_other_kind : BindOk "_law_other_kind" "_law_other_kind" s__law_other_kind ["_law_pen_here", "_law_parts", "_law_choice"] := fun _ _ _ _ _ _ us hl => match us, hl with | [_, _, _], _ => rfl
abbrev s__law_other : Stmt := top 39
theorem sc__law_other : FnScope ["_law_pen_here", "_law_parts", "_law_other_here", "_law_choice"] ["_law_pen_here", "_law_parts"] (defScope s__law_other) := ⟨rfl, rfl, rfl, by decide +kernel, rfl, by decide +kernel, by decide +kernel⟩
theorem bd__law_other : BindOk "_law_other" "_law_other" s__law_other ["_law_pen_here", "_law_parts"] := fun _ _ _ _ _ _ us hl => match us, hl with | [_, _], _ => rfl
abbrev s_law : Stmt := top 40
theorem sc_law : FnScope ["_law_script", "_law_pen_here", "_law_turn", "_law_parts", "_law_step", "_law_due_here", "_law_told", "_law_made", "_law_kind", "_law_other_here", "_law_alike_to"] ["_law_script"] (defScope s_law) := ⟨rfl, rfl, rfl, by decide +kernel, rfl, by decide +kernel, by decide +kernel⟩
theorem bd_law : BindOk "law" "law" s_law ["_law_script"] := fun _ _ _ _ _ _ us hl => match us, hl with | [_], _ => rfl
/-! ### errors -/
def tErr2 (C : Addr) (f1 f2 : Str) (ta : TA) : L2.St → Hp → XK → Prop := fun σ H Q => ta σ H fun vs H1 => ∃ v1 z, vs = [v1, .str z] ∧ z.length ≤ 100 ∧ ∀ (dx : Addr) (H2 : Hp), H1 dx = none → H2 dx = some (.xd [(f2, .str z), (f1, v1)]) → (∀ b, b ≠ dx → H2 b = H1 b) → Q (.ref C) (some dx) H2
def spErr1 (C : Addr) (f1 : Str) : Sp := fun vs H Q _ => ∃ (a : Addr) (v1 : V), vs = [.ref a, v1] ∧ H a = some (exo a C none) ∧ ∀ (d : Addr) (H' : Hp), H d = none → d ≠ a → H' a = some (exo a C (some d)) → H' d = some (exd d [(f1, v1)]) → (∀ b, b ≠ a → b ≠ d → H' b = H b) → Q .non H'
def spErr2 (C : Addr) (f1 f2 : Str) : Sp := fun vs H Q _ => ∃ (a : Addr) (v1 : V) (z : Str), vs = [.ref a, v1, .str z] ∧ z.length ≤ 100 ∧ H a = some (exo a C none) ∧ ∀ (d : Addr) (H' : Hp), H d = none → d ≠ a → H' a = some (exo a C (some d)) → H' d = some (exd d [(f2, .str z), (f1, v1)]) → (∀ b, b ≠ a → b ≠ d → H' b = H b) → Q .non H'
theorem mk1 {C : Addr} {f1 : Str} {ta : TA} {σ : L2.St} {H : Hp} {Q : XK} (m : ∀ {Q1 Q2 : List V → Hp → Prop}, (∀ vs H, Q1 vs H → Q2 vs H) → ta σ H Q1 → ta σ H Q2) (h : tErr C f1 ta σ H Q) : tMkO C (spErr1 C f1) [] ta σ H Q := by
  refine m (fun vs H1 q => ?_) h
  obtain ⟨v, rfl, q⟩ := q
  refine ⟨by show 1 ≤ 1000; decide, fun a na => ⟨a, v, rfl, upd_same, fun d H' nd ne h1 h2 k => ⟨rfl, d, _, h1, h2, ?_, ?_⟩⟩⟩
  · rw [upd_ne ne] at nd
    exact nd
  · rw [upd_ne ne] at nd
    refine q d _ nd upd_same fun b nb => ?_
    rw [upd_ne nb]
    by_cases hb : b = a
    · rw [hb, del_same, na]
    · rw [del_ne hb, k b hb nb, upd_ne hb]
theorem mk2 {C : Addr} {f1 f2 : Str} {ta : TA} {σ : L2.St} {H : Hp} {Q : XK} (m : ∀ {Q1 Q2 : List V → Hp → Prop}, (∀ vs H, Q1 vs H → Q2 vs H) → ta σ H Q1 → ta σ H Q2) (h : tErr2 C f1 f2 ta σ H Q) : tMkO C (spErr2 C f1 f2) [] ta σ H Q := by
  refine m (fun vs H1 q => ?_) h
  obtain ⟨v, z, rfl, hz, q⟩ := q
  refine ⟨by show 2 ≤ 1000; decide, fun a na => ⟨a, v, z, rfl, hz, upd_same, fun d H' nd ne h1 h2 k => ⟨rfl, d, _, h1, h2, ?_, ?_⟩⟩⟩
  · rw [upd_ne ne] at nd
    exact nd
  · rw [upd_ne ne] at nd
    refine q d _ nd upd_same fun b nb => ?_
    rw [upd_ne nb]
    by_cases hb : b = a
    · rw [hb, del_same, na]
    · rw [del_ne hb, k b hb nb, upd_ne hb]
section
variable {P : Program} {w : World} {K : PySem.W.Frag} {mg : Str → Option Value} {base : Heap} {C D f : Addr} {fd : FuncData}
theorem ok_eKind (F : FunS P K "__init__" "InvalidKind.__init__" s_InvalidKind___init__ f C fd) (T : OexC K C) (isub : PySem.W.mroIn K C (.ref C) = some true) (up : PySem.W.ks_superIn K C C "__init__" = some (some (.builtin "ValueError.__init__"))) (sub : PySem.W.subIn K (.ref C) (.type "ValueError") = some true)
    (n1 : PySem.W.findIn K (.ref C) "value" = some none) : Gd P w K mg base (L2.CX P w) 1 f fd ["self", "value"] (spErr1 C "value") := by
  refine gdS_of (k := 0) F sc_InvalidKind___init__ (fun vs H Q E h => ?_) (fun cda cc A outer s0 s1 H vs Q E rm gd h sf I => ?_)
  · obtain ⟨a, v, rfl, _⟩ := h
    rfl
  · obtain ⟨a, v, rfl, ha, q⟩ := h
    obtain ⟨dV, kV, doc, pm, ct, an, SF⟩ := sf
    refine ks_wpAt_execs_cons (ks_wpAt_Expr_any (ks_wpAt_mono (sup_err (Q := fun v H' => H' = H) sc_InvalidKind___init__ SF rfl rfl (by decide +kernel) I rfl ha T isub up sub (pa_cons pe_str pa_nil) ?_) (fun u s2 z => ?_) (fun e s2 z => z)) I.quiet)
    · walk_at "go"
      exact ⟨by show 1 ≤ 1000; decide, ha, rfl⟩
    obtain ⟨v2, H2, J, rv, rfl⟩ := z
    have rest : ∃ t, PSs (cxS P w K mg base ["self", "value"] "InvalidKind.__init__" (defScope s_InvalidKind___init__) f cda cc A outer s0 H2 E) ((defBody s_InvalidKind___init__).drop 1) t ∧ t { nx := fun _ H' => Q .non H', rt := Q } (start ["self", "value"] [.ref a, v]) H2 := by
      refine ⟨_, (pss_one (ps_ost (pv 0) (pv 1))), ?_⟩
      walk_at "go"
      unfold tOst
      walk_at "go"
      refine ⟨a, C, rfl, T, n1, .inl ⟨ha, fun dx nd ne => ?_⟩⟩
      exact q dx _ nd ne upd_same (by rw [upd_ne ne, upd_same]) fun b na nb => by rw [upd_ne na, upd_ne nb]
    obtain ⟨t, h1, h2⟩ := rest
    exact wpAt_of_wpAny (h1.run [] s2 _ H2 _ J h2)
theorem ok_eField (F : FunS P K "__init__" "InvalidField.__init__" s_InvalidField___init__ f C fd) (T : OexC K C) (isub : PySem.W.mroIn K C (.ref C) = some true) (up : PySem.W.ks_superIn K C C "__init__" = some (some (.builtin "ValueError.__init__"))) (sub : PySem.W.subIn K (.ref C) (.type "ValueError") = some true)
    (n1 : PySem.W.findIn K (.ref C) "name" = some none) (n2 : PySem.W.findIn K (.ref C) "reason" = some none) : Gd P w K mg base (L2.CX P w) 1 f fd ["self", "name", "reason"] (spErr2 C "name" "reason") := by
  refine gdS_of (k := 0) F sc_InvalidField___init__ (fun vs H Q E h => ?_) (fun cda cc A outer s0 s1 H vs Q E rm gd h sf I => ?_)
  · obtain ⟨a, v, z, rfl, _⟩ := h
    rfl
  · obtain ⟨a, v, z, rfl, hz, ha, q⟩ := h
    obtain ⟨dV, kV, doc, pm, ct, an, SF⟩ := sf
    have big : z.length ≤ sizeLine := Nat.le_trans hz (by decide)
    refine ks_wpAt_execs_cons (ks_wpAt_Expr_any (ks_wpAt_mono (sup_err (Q := fun v H' => H' = H) sc_InvalidField___init__ SF rfl rfl (by decide +kernel) I rfl ha T isub up sub (pa_cons (pe_joined (.cons pe_str (.cons (pe_fmt (pv 2)) .nil))) pa_nil) ?_) (fun u s2 z => ?_) (fun e s2 z => z)) I.quiet)
    · refine w_cons ?_
      have l1 : (Str.empty ++ ("not a field: " : Str)).length ≤ 13 := by decide +kernel
      refine ⟨"not a field: ", rfl, Nat.le_trans l1 (by decide), .str z, rfl, .inl ⟨z, rfl, big, z, rfl, ?_, ?_⟩⟩
      · rw [strLen_append]
        exact Nat.le_trans (Nat.add_le_add l1 hz) (by decide)
      · walk_at "go"
        exact ⟨by show 1 ≤ 1000; decide, ha, rfl⟩
    obtain ⟨v2, H2, J, rv, rfl⟩ := z
    have rest : ∃ t, PSs (cxS P w K mg base ["self", "name", "reason"] "InvalidField.__init__" (defScope s_InvalidField___init__) f cda cc A outer s0 H2 E) ((defBody s_InvalidField___init__).drop 1) t ∧ t { nx := fun _ H' => Q .non H', rt := Q } (start ["self", "name", "reason"] [.ref a, v, .str z]) H2 := by
      refine ⟨_, (pss_cons (ps_ost (pv 0) (pv 1))
    (pss_one (ps_ost (pv 0) (pv 2)))), ?_⟩
      walk_at "go"
      unfold tOst
      walk_at "go"
      refine ⟨a, C, rfl, T, n1, .inl ⟨ha, fun dx nd ne => ?_⟩⟩
      walk_at "go"
      refine ⟨a, C, rfl, T, n2, .inr ⟨dx, _, upd_same, by rw [upd_ne ne, upd_same], by show 1 ≤ 900; decide, ?_⟩⟩
      exact q dx _ nd ne (by rw [upd_ne (Ne.symm ne), upd_same]) upd_same fun b na nb => by rw [upd_ne nb, upd_ne na, upd_ne nb]
    obtain ⟨t, h1, h2⟩ := rest
    exact wpAt_of_wpAny (h1.run [] s2 _ H2 _ J h2)
end
end Law

set_option Elab.async false
set_option linter.all false
set_option maxRecDepth 100000
set_option maxHeartbeats 4000000
namespace Law
open PySem PySem.Spec PySem.Calls PyProof.Rows L2 KG LamX
local macro_rules | `(tactic| walk_at "1") => `(tactic| first
  | (with_reducible refine w_var rfl ?_) | (with_reducible refine w_c ?_) | (with_reducible refine w_seq ?_) | (with_reducible refine w_asg ?_) | (with_reducible refine w_gname ?_) | (with_reducible refine w_op ?_) | (with_reducible refine w_un ?_)
  | (with_reducible refine w_add ?_) | (with_reducible refine w_sub ?_) | ((with_reducible refine' w_mod ?mo ?_); (case mo => first | assumption | decide | omega)) | (with_reducible refine w_and ?_) | (with_reducible refine w_or ?_) | (with_reducible refine w_xor ?_)
  | (with_reducible refine w_gt ?_) | (with_reducible refine w_lt ?_) | (with_reducible refine w_ge ?_) | (with_reducible refine w_le ?_) | ((with_reducible refine' w_eq ?sc ?_); (case sc => rfl)) | ((with_reducible refine' w_ne ?sc ?_); (case sc => rfl))
  | (with_reducible refine w_ret ?_) | (with_reducible refine w_next ?_) | (with_reducible refine w_ifs ?_) | (with_reducible refine w_ifx ?_) | (with_reducible refine w_test ?_) | (with_reducible refine w_tB ?_) | (with_reducible refine w_bl ?_)
  | ((with_reducible refine' w_ixL ?ixh ?ixa ?_); (case ixh => first | exact SqL.of (by assumption)); (case ixa => first | rfl | skip)) | ((with_reducible refine' w_ixT ?ixh ?ixa ?_); (case ixh => first | exact SqT.of (by assumption)); (case ixa => first | rfl | skip))
  | ((with_reducible refine' w_fld ?_)) | ((with_reducible refine' fld ?fh ?fc ?fn ?fl ?_); (case fh => assumption); (case fc => assumption); (case fn => assumption); (case fl => rfl)) | (with_reducible refine w_sfld ?_)
  | (with_reducible refine Or.inl ⟨_, rfl, ?_⟩) | (with_reducible refine w_gsub ?_) | (with_reducible refine w_andV ?_) | (with_reducible refine w_orV ?_)
  | (with_reducible refine w_nil ?_) | (with_reducible refine w_cons ?_) | (with_reducible refine w_tup ?_) | (with_reducible refine w_lst ?_) | (with_reducible refine w_and2 ?_) | (with_reducible refine w_or2 ?_) | (with_reducible refine w_not ?_) | (with_reducible refine w_cb ?_) | (with_reducible refine w_call ?_) | (with_reducible refine w_par ?_) | (with_reducible refine w_pnil ?_) | (with_reducible refine w_pcons ?_) | (with_reducible refine w_dput ?_) | (with_reducible refine w_dget ?_) | (with_reducible refine w_for ?_) | (with_reducible refine w_itup ?_) | (with_reducible refine w_ilist ?_) | (with_reducible refine w_irng ?_) | (with_reducible refine w_meth ?_) | (with_reducible refine w_make ?_) | (with_reducible refine w_makeK ?_) | (with_reducible refine w_methK ?_) | ((with_reducible refine' mth ?mh ?ml ?_); (case mh => assumption); (case ml => rfl)) | (with_reducible refine w_drop ?_))
local macro_rules | `(tactic| walk_at "go") => `(tactic| ((repeat (walk_at "1")); try dsimp only))
local macro_rules | `(tactic| walk_at "1") => `(tactic| first
  | (with_reducible refine w_notV ?_) | (with_reducible refine w_callK ?_) | (with_reducible refine w_lc ?_) | (with_reducible refine w_chain ?_) | (with_reducible refine w_neg ?_) | ((with_reducible refine' w_shr ?mo ?_); (case mo => first | assumption | omega)))
structure B1 (mg : Str → Option Value) : Prop where
  g_int : mg "int" = none
  g_len : mg "len" = none
  g_abs : mg "abs" = none
  g_list : mg "list" = none
  g_repr : mg "repr" = none
  g_range : mg "range" = none
  g_str : mg "str" = none
  g_isinstance : mg "isinstance" = none
  g_tuple : mg "tuple" = none
  g_bool : mg "bool" = none
  g_all : mg "all" = none
def capL : Str := "ABCDEFGHIJKLMNOPQRSTUVWXYZ"
def nameL : Str := "ABCDEFGHIJKLMNOPQRSTUVWXYZ_0123456789"
structure G19 (mg : Str → Option Value) : Prop where
  cap : ∃ t, mg "CAPITALS" = some (.str capL t)
  nam : ∃ t, mg "NAME_LETTERS" = some (.str nameL t)
  lng : ∃ t, mg "LONGEST_NAME" = some (.int 8 t)
  hip : ∃ t, mg "HIGHEST_PLACE" = some (.int 31 t)
  mst : ∃ t, mg "MOST_FIELD_BITS" = some (.int 16 t)
  wid : ∃ t, mg "WIDEST" = some (.int 32 t)
/-! ### values of any kind -/
def isI : V → Bool | .int _ => true | _ => false
def isB : V → Bool | .bl _ => true | _ => false
def isS : V → Bool | .str _ => true | _ => false
structure OdV0 (K : PySem.W.Frag) (H : Hp) (x : V) : Prop where
  ty : ∃ t, TyX K H x (.type t) ∧ kitB t "int" = some (isI x || isB x) ∧ kitB t "bool" = some (isB x) ∧ kitB t "str" = some (isS x)
  dat : (∃ d, Da H x d ∧ d.canLay0 = true ∧ d.depth ≤ 40 ∧ ∀ z, d = .str z ↔ x = .str z) ∨ ∃ a kvs, x = .ref a ∧ H a = some (.dK kvs)
  shrt : ∀ z, x = .str z → z.length ≤ 100
/-- all but own objects are as they were -/
def SamI (H H' : Hp) : Prop := ∀ b o, H b = some o → (∀ C dx fs, o ≠ .ins C dx fs) → H' b = some o
theorem SamI.of {H H' : Hp} (s : Same H H') : SamI H H' := fun b o e _ => s b o e
theorem SamI.trans {H H1 H2 : Hp} (s : SamI H H1) (t : SamI H1 H2) : SamI H H2 := fun b o e n => t b o (s b o e n) n
def OdV (K : PySem.W.Frag) (H : Hp) (x : V) : Prop := ∀ H', SamI H H' → OdV0 K H' x
theorem OdV.si {K : PySem.W.Frag} {H H' : Hp} {x : V} (h : OdV K H x) (s : SamI H H') : OdV K H' x := fun H2 s2 => h H2 (s.trans s2)
theorem OdV.sm {K : PySem.W.Frag} {H H' : Hp} {x : V} (h : OdV K H x) (s : Same H H') : OdV K H' x := h.si (.of s)
theorem OdV.at_ {K : PySem.W.Frag} {H : Hp} {x : V} (h : OdV K H x) : OdV0 K H x := h H fun _ _ e _ => e
theorem od_str {K : PySem.W.Frag} {H : Hp} {z : Str} (hz : z.length ≤ 100) (hl : (PyData.str z).canLay0 = true) : OdV K H (.str z) := fun H' _ =>
  ⟨⟨"str", .base (.str z), show kitB "str" "int" = some false by decide +kernel, show kitB "str" "bool" = some false by decide +kernel, show kitB "str" "str" = some true by decide +kernel⟩,
    .inl ⟨_, .str z, hl, by simp [PyData.depth], fun y => ⟨fun e => by cases e; rfl, fun e => by cases e; rfl⟩⟩, fun y e => by cases e; exact hz⟩
theorem od_int {K : PySem.W.Frag} {H : Hp} (i : Int) : OdV K H (.int i) := fun H' _ =>
  ⟨⟨"int", .base (.int i), show kitB "int" "int" = some true by decide +kernel, show kitB "int" "bool" = some false by decide +kernel, show kitB "int" "str" = some false by decide +kernel⟩,
    .inl ⟨_, .int i, by simp [PyData.canLay0], by simp [PyData.depth], fun y => ⟨nofun, nofun⟩⟩, fun y e => by cases e⟩
theorem od_non {K : PySem.W.Frag} {H : Hp} : OdV K H .non := fun H' _ =>
  ⟨⟨_, .base .non, by decide +kernel, by decide +kernel, by decide +kernel⟩, .inl ⟨_, .non, by simp [PyData.canLay0], by simp [PyData.depth], fun y => ⟨nofun, nofun⟩⟩, fun y e => by cases e⟩
def badW (l : List Str) : V → Bool | .str z => !(l.any fun w => decide (w = z)) | _ => true
theorem eqv_str {z : Str} : ∀ d : PyData, PyData.eqv (.str z) d = true ↔ d = .str z := by
  intro d
  cases d with
  | str y =>
    simp only [PyData.eqv, decide_eq_true_iff]
    exact ⟨fun h => by rw [eq_of_beq h], fun h => by cases h; exact beq_self_eq_true _⟩
  | _ => simp [PyData.eqv]
theorem dS (a b : Str) : decide (V.str a = V.str b) = decide (a = b) := by
  by_cases h : a = b
  · rw [h, decide_eq_true rfl, decide_eq_true rfl]
  · rw [decide_eq_false h, decide_eq_false fun z => h (V.str.inj z)]
theorem any_bad {x : V} {d : PyData} (hs : ∀ z, d = .str z ↔ x = .str z) (zs : List Str) : (!(zs.any fun z => PyData.eqv (.str z) d)) = badW zs x := by
  have key : ∀ z, PyData.eqv (.str z) d = decide (x = .str z) := fun z => by
    rw [Bool.eq_iff_iff, eqv_str, decide_eq_true_iff]
    exact hs z
  simp only [key]
  cases x with
  | str y =>
    unfold badW
    congr 2
    funext z
    by_cases e : z = y
    · subst e
      simp
    · rw [decide_eq_false e, decide_eq_false fun h => e (V.str.inj h).symm]
  | _ => simp [badW]
theorem od_notIn {K : PySem.W.Frag} {H : Hp} {x : V} {p : Addr} {zs : List Str} {Q : VK} (h : OdV0 K H x) (kt : KTup K p (zs.map V.str)) (ok : zs.all PyData.strOk = true) (q : Q (.bl (badW zs x)) H) : rNotInC K x (.ref p) H Q := by
  rcases h.dat with ⟨d, hd, lay, dp, hs⟩ | ⟨a, kvs, rfl, ha⟩
  · refine .inl ⟨p, d, zs, rfl, hd, .inl lay, dp, kt, ok, ?_⟩
    rw [any_bad hs]
    exact q
  · exact .inr ⟨p, a, zs, kvs, rfl, rfl, ha, kt, q⟩
theorem od_notInT {K : PySem.W.Frag} {H : Hp} {x : V} {p : Addr} {zs : List Str} {Q : VK} (h : OdV0 K H x) (hp : H p = some (.tup (zs.map V.str))) (ok : zs.all PyData.strOk = true) (q : Q (.bl (badW zs x)) H) : rNotInT x (.ref p) H Q := by
  rcases h.dat with ⟨d, hd, lay, dp, hs⟩ | ⟨a, kvs, rfl, ha⟩
  · refine ⟨p, zs, rfl, hp, ok, .inl ⟨d, hd, lay, dp, ?_⟩⟩
    rw [any_bad hs]
    exact q
  · exact ⟨p, zs, rfl, hp, ok, .inr ⟨a, kvs, rfl, ha, q⟩⟩
/-! ### words, places, names -/
def fw (n : Int) : Int := 1 * 2 ^ n.toNat - 1
def isW (n : Int) : V → Bool | .int v => decide (0 ≤ v) && decide (v ≤ fw n) | _ => false
def hasO (L : Str) : V → Bool | .str z => decide (1 ≤ z.length ∧ z.length ≤ 8) && z.cps.toList.all (fun c => decide (c ∈ L.cps.toList)) | _ => false
def isNm (x : V) : Bool := hasO nameL x && (match x with | .str z => (match z.cps.toList with | c :: _ => decide (c ∈ capL.cps.toList) | [] => false) | _ => false)
def isPl : V → V → Bool | .int l, .int s => decide (0 ≤ l ∧ l ≤ 31 ∧ 1 ≤ s ∧ s ≤ 16 ∧ l + s ≤ 32) | _, _ => false
def isRs (x : V) (n : Int) (d : Str) : Bool := isW n x && (decide (d ≠ "raise") || decide (x = .int 0))
def spIsInt (K : PySem.W.Frag) : Sp := fun vs H Q _ => ∃ x : V, vs = [x] ∧ OdV K H x ∧ Q (.bl (isI x)) H
def spFull : Sp := fun vs H Q _ => ∃ n : Int, vs = [.int n] ∧ 1 ≤ n ∧ n ≤ 16 ∧ Q (.int (fw n)) H
def spIsW (K : PySem.W.Frag) : Sp := fun vs H Q _ => ∃ (x : V) (n : Int), vs = [x, .int n] ∧ OdV K H x ∧ 1 ≤ n ∧ n ≤ 16 ∧ Q (.bl (isW n x)) H
def spHasO (K : PySem.W.Frag) : Sp := fun vs H Q _ => ∃ (x : V) (L : Str), vs = [x, .str L] ∧ OdV K H x ∧ ∀ H', Same H H' → Q (.bl (hasO L x)) H'
def spIsNm (K : PySem.W.Frag) : Sp := fun vs H Q _ => ∃ x : V, vs = [x] ∧ OdV K H x ∧ ∀ H', Same H H' → Q (.bl (isNm x)) H'
def spIsPl (K : PySem.W.Frag) : Sp := fun vs H Q _ => ∃ x y : V, vs = [x, y] ∧ OdV K H x ∧ OdV K H y ∧ Q (.bl (isPl x y)) H
def spIsRs (K : PySem.W.Frag) : Sp := fun vs H Q _ => ∃ (x : V) (n : Int) (d : Str), vs = [x, .int n, .str d] ∧ OdV K H x ∧ 1 ≤ n ∧ n ≤ 16 ∧ Q (.bl (isRs x n d)) H
section
variable {P : Program} {w : World} {K : PySem.W.Frag} {mg : Str → Option Value} {base : Heap}
theorem ok_is_int (D : DefAt K mg "is_int" s_is_int ["value"]) (B : B1 mg) : Cal P w K mg base 1 "is_int" (spIsInt K) := by
  refine D.cal sc_is_int (fun vs H Q E h => ?_) (fun f cdv A outer s H vs Q E rm gd h => ?_)
  · obtain ⟨x, rfl, _⟩ := h
    rfl
  · obtain ⟨x, rfl, ov, q⟩ := h
    obtain ⟨t, ty, k1, k2, _⟩ := ov.at_.ty
    refine ⟨_, (pss_one (ps_ret (pe_and (pe_callB call_isi (by rfl) B.g_isinstance (by decide +kernel) (pa_cons (pv 0) (pa_cons (pe_bltn (v := .ty "int") rfl B.g_int (by decide +kernel) rfl) pa_nil))) (pe_one (pe_not (pe_callB call_isi (by rfl) B.g_isinstance (by decide +kernel) (pa_cons (pv 0) (pa_cons (pe_bltn (v := .ty "bool") rfl B.g_bool (by decide +kernel) rfl) pa_nil)))))))), ?_⟩
    walk_at "go"
    refine ⟨x, .ty "int", .type t, .type "int", _, rfl, .ty _, ty, kit_ty k1, _, rfl, ?_⟩
    have e : isI x = ((isI x || isB x) && !(isB x)) := by cases x <;> rfl
    rw [e] at q
    cases h : (isI x || isB x) with
    | false =>
      rw [h] at q
      exact iteF q
    | true =>
      rw [h] at q
      refine iteT ?_
      walk_at "go"
      exact ⟨x, .ty "bool", .type t, .type "bool", _, rfl, .ty _, ty, kit_ty k2, _, rfl, q⟩
theorem ok_full_word (D : DefAt K mg "full_word" s_full_word ["size"]) : Cal P w K mg base 1 "full_word" spFull := by
  refine D.cal sc_full_word (fun vs H Q E h => ?_) (fun f cdv A outer s H vs Q E rm gd h => ?_)
  · obtain ⟨n, rfl, _⟩ := h
    rfl
  · obtain ⟨n, rfl, h1, h2, q⟩ := h
    refine ⟨_, (pss_one (ps_ret (pe_op op_sub (pe_op op_shl pe_int (pv 0)) pe_int))), ?_⟩
    walk_at "go"
    refine w_shl ⟨by omega, by omega, by decide⟩ ?_
    walk_at "go"
    exact q
theorem ok_is_word (D : DefAt K mg "is_word" s_is_word ["value", "size"]) (cis_int : Cal P w K mg base 1 "is_int" (spIsInt K)) (cfull_word : Cal P w K mg base 1 "full_word" spFull) : Cal P w K mg base 2 "is_word" (spIsW K) := by
  refine D.cal sc_is_word (fun vs H Q E h => ?_) (fun f cdv A outer s H vs Q E rm gd h => ?_)
  · obtain ⟨v, n, rfl, _⟩ := h
    rfl
  · obtain ⟨x, n, rfl, ov, n1, n2, q⟩ := h
    refine ⟨_, (pss_one (ps_ret (pe_and (pc cis_int rm (by decide) gd rfl (pa_cons (pv 0) pa_nil)) (pe_one (pe_chain op_le op_le pe_int (pv 0) (pc cfull_word rm (by decide) gd rfl (pa_cons (pv 1) pa_nil))))))), ?_⟩
    walk_at "go"
    refine ⟨x, rfl, ov, _, rfl, ?_⟩
    cases x with
    | int v =>
      refine iteT ?_
      walk_at "go"
      have e : isW n (.int v) = (decide (0 ≤ v) && decide (v ≤ fw n)) := rfl
      rw [e] at q
      cases h : decide (0 ≤ v) with
      | false =>
        rw [h] at q
        exact iteF q
      | true =>
        rw [h] at q
        refine iteT ?_
        walk_at "go"
        refine ⟨n, rfl, n1, n2, ?_⟩
        walk_at "go"
        exact q
    | _ => exact iteF q
theorem ok_has_only (D : DefAt K mg "has_only" s_has_only ["value", "letters"]) (B : B1 mg) (G : G19 mg) : Cal P w K mg base 1 "has_only" (spHasO K) := by
  refine D.cal sc_has_only (fun vs H Q E h => ?_) (fun f cdv A outer s H vs Q E rm gd h => ?_)
  · obtain ⟨x, L, rfl, _⟩ := h
    rfl
  · obtain ⟨x, L, rfl, ov, q⟩ := h
    obtain ⟨t, ty, _, _, k3⟩ := ov.at_.ty
    obtain ⟨tl, gLn⟩ := G.lng
    refine ⟨_, (pss_mid (ps_if (PW.pt (pw_or (pt_not (pt_val (pe_callB call_isi (by rfl) B.g_isinstance (by decide +kernel) (pa_cons (pv 0) (pa_cons (pe_bltn (v := .ty "str") rfl B.g_str (by decide +kernel) rfl) pa_nil))))) (pw_or1 (pt_not (pt_chain op_le op_le pe_int (pe_callB call_len_str (by rfl) B.g_len (by decide +kernel) (pa_cons (pv 0) pa_nil)) (pe_glob (v := .int 8) rfl gLn ⟨_, rfl⟩))))))
      (pss_one (ps_ret pe_bl))
      pss_nil)
    (pss_one (ps_ret (pe_callB (id := "all") (r := rAll K) (cr_all (by rfl)) (by rfl) B.g_all (by decide +kernel) (pa_cons (pe_lc (own := [("letter", 2)]) (g := (gName 2)) (by rfl) sc_has_only.nd (pi_str (pv 0)) (blkOk_by (own := [("letter", 2)]) (N := ["value", "letters", "letter"]) (sc := defScope s_has_only) (by decide +kernel)) (fun _ _ _ _ _ => (pg_name (i := 2) sc_has_only.nd rfl (Or.inl rfl))) (fun _ _ _ _ _ => pts_nil) (fun _ _ _ _ _ => (pe_cmpR op_in_sign (pv 2) (pv 1) rfl))) pa_nil))))), ?_⟩
    refine w_mid (fun σ' H' => σ' = [some x, some (.str L), none] ∧ H' = H ∧ ∃ z, x = .str z ∧ 1 ≤ z.length ∧ z.length ≤ 8) ?_ ?_
    · walk_at "go"
      refine ⟨x, .ty "str", .type t, .type "str", _, rfl, .ty _, ty, kit_ty k3, _, rfl, ?_⟩
      cases x with
      | str z =>
        have zl := ov.at_.shrt z rfl
        refine iteF ?_
        walk_at "go"
        refine ⟨z, rfl, Nat.le_trans zl (by decide), ?_⟩
        walk_at "go"
        have no : ¬ (1 ≤ z.length ∧ z.length ≤ 8) → Q (.bl false) H := fun h => by
          have e : hasO L (.str z) = false := by
            show (decide (1 ≤ z.length ∧ z.length ≤ 8) && _) = false
            rw [decide_eq_false h, Bool.false_and]
          have := q H (Same.refl _)
          rw [e] at this
          exact this
        by_cases a1 : 1 ≤ z.length
        · rw [decide_eq_true (show (1 : Int) ≤ (z.length : Int) by omega)]
          refine iteT ?_
          walk_at "go"
          by_cases a2 : z.length ≤ 8
          · rw [decide_eq_true (show (z.length : Int) ≤ 8 by omega)]
            refine iteF ?_
            exact ⟨rfl, rfl, z, rfl, a1, a2⟩
          · rw [decide_eq_false (show ¬ (z.length : Int) ≤ 8 by omega)]
            refine iteT ?_
            walk_at "go"
            exact no fun h => a2 h.2
        · rw [decide_eq_false (show ¬ (1 : Int) ≤ (z.length : Int) by omega)]
          refine iteF ?_
          walk_at "go"
          refine iteT ?_
          walk_at "go"
          exact no fun h => a1 h.1
      | _ =>
        refine iteT ?_
        refine iteT ?_
        walk_at "go"
        exact q H (Same.refl _)
    · rintro σ' H' ⟨rfl, rfl, z, rfl, z1, z8⟩
      unfold iStr
      walk_at "go"
      refine ⟨z, rfl, ?_⟩
      intro D nD
      have zD : Same H' (upd H' D (.lst [])) := fun b u e => by
        rw [upd_ne (ne_of_none e nD)]
        exact e
      have zs : z.cps.size ≤ 8 := z8
      refine lc_it walk_str (fun i H2 => H2 D = some (.lst (((z.cps.toList.take i).map fun c => decide (c ∈ L.cps.toList)).map V.bl)) ∧ Same H' H2) ⟨by rw [upd_same]; rfl, zD⟩ (fun _ _ _ _ => trivial) (fun i y H2 H3 hi ⟨hD, s2⟩ hy => ?_) (fun H2 ⟨hD, s2⟩ => ?_)
      · obtain ⟨rfl, c, ec, rfl⟩ := hy
        walk_at "go"
        refine ⟨rfl, ?_⟩
        try unfold tYes
        refine iteT ?_
        walk_at "go"
        refine ⟨c, L, rfl, rfl, _, hD, by rw [List.length_map, List.length_map, List.length_take]; exact Nat.lt_of_le_of_lt (Nat.min_le_left _ _) (Nat.lt_of_lt_of_le (show i < 9 by omega) (by decide)), ?_, fun b o e => ?_⟩
        · rw [upd_same, List.take_add_one, Array.getElem?_toList, ec, List.map_append, List.map_append]
          rfl
        · rw [upd_ne (ne_of_none e nD)]
          exact s2 _ _ e
      · walk_at "go"
        rw [← Array.length_toList, List.take_length] at hD
        refine ⟨D, _, rfl, SqL.of hD, ?_⟩
        have e : hasO L (.str z) = ((z.cps.toList.map fun c => decide (c ∈ L.cps.toList)).all id) := by
          show (decide (1 ≤ z.length ∧ z.length ≤ 8) && _) = _
          rw [decide_eq_true ⟨z1, z8⟩, Bool.true_and, List.all_map]
          rfl
        rw [← e]
        exact q H2 s2
theorem ok_is_place (D : DefAt K mg "is_place" s_is_place ["low", "size"]) (G : G19 mg) (cis_int : Cal P w K mg base 1 "is_int" (spIsInt K)) : Cal P w K mg base 2 "is_place" (spIsPl K) := by
  refine D.cal sc_is_place (fun vs H Q E h => ?_) (fun f cdv A outer s H vs Q E rm gd h => ?_)
  · obtain ⟨x, y, rfl, _⟩ := h
    rfl
  · obtain ⟨x, y, rfl, ox, oy, q⟩ := h
    obtain ⟨t1, gHp⟩ := G.hip
    obtain ⟨t2, gMf⟩ := G.mst
    obtain ⟨t3, gWd⟩ := G.wid
    refine ⟨_, (pss_mid (ps_if (PW.pt (pw_or (pt_not (pt_val (pc cis_int rm (by decide) gd rfl (pa_cons (pv 0) pa_nil)))) (pw_or1 (pt_not (pt_val (pc cis_int rm (by decide) gd rfl (pa_cons (pv 1) pa_nil)))))))
      (pss_one (ps_ret pe_bl))
      pss_nil)
    (pss_one (ps_ret (pe_and (pe_chain op_le op_le pe_int (pv 0) (pe_glob (v := .int 31) rfl gHp ⟨_, rfl⟩)) (pe_and (pe_chain op_le op_le pe_int (pv 1) (pe_glob (v := .int 16) rfl gMf ⟨_, rfl⟩)) (pe_one (pe_cmpR op_le (pe_op op_add (pv 0) (pv 1)) (pe_glob (v := .int 32) rfl gWd ⟨_, rfl⟩) (nomark _)))))))), ?_⟩
    refine w_mid (fun σ' H' => σ' = [some x, some y] ∧ H' = H ∧ isI x = true ∧ isI y = true) ?_ ?_
    · walk_at "go"
      refine ⟨x, rfl, ox, _, rfl, ?_⟩
      cases hx : isI x with
      | false =>
        have e : isPl x y = false := by cases x <;> first | rfl | cases hx
        refine iteT ?_
        refine iteT ?_
        walk_at "go"
        exact e ▸ q
      | true =>
        refine iteF ?_
        walk_at "go"
        refine ⟨y, rfl, oy, _, rfl, ?_⟩
        cases hy : isI y with
        | false =>
          have e : isPl x y = false := by cases x <;> cases y <;> first | rfl | cases hy
          refine iteT ?_
          walk_at "go"
          exact e ▸ q
        | true =>
          refine iteF ?_
          exact ⟨rfl, rfl, rfl, rfl⟩
    · rintro σ' H' ⟨rfl, rfl, hx, hy⟩
      cases x <;> cases hx
      rename_i lo
      cases y <;> cases hy
      rename_i sz
      have no : ¬ (0 ≤ lo ∧ lo ≤ 31 ∧ 1 ≤ sz ∧ sz ≤ 16 ∧ lo + sz ≤ 32) → Q (.bl false) H' := fun h => by
        have e : isPl (.int lo) (.int sz) = false := decide_eq_false h
        rw [e] at q
        exact q
      walk_at "go"
      by_cases a1 : 0 ≤ lo
      · rw [decide_eq_true a1]
        refine iteT ?_
        walk_at "go"
        by_cases a2 : lo ≤ 31
        · rw [decide_eq_true a2]
          refine iteT ?_
          walk_at "go"
          by_cases a3 : 1 ≤ sz
          · rw [decide_eq_true a3]
            refine iteT ?_
            walk_at "go"
            by_cases a4 : sz ≤ 16
            · rw [decide_eq_true a4]
              refine iteT ?_
              walk_at "go"
              have e : isPl (.int lo) (.int sz) = decide (lo + sz ≤ 32) := by
                show decide _ = _
                by_cases a5 : lo + sz ≤ 32
                · rw [decide_eq_true a5, decide_eq_true ⟨a1, a2, a3, a4, a5⟩]
                · rw [decide_eq_false a5, decide_eq_false fun h => a5 h.2.2.2.2]
              exact e ▸ q
            · rw [decide_eq_false a4]
              exact iteF (no fun h => a4 h.2.2.2.1)
          · rw [decide_eq_false a3]
            refine iteF ?_
            exact ⟨false, rfl, iteF (no fun h => a3 h.2.2.1)⟩
        · rw [decide_eq_false a2]
          exact iteF (no fun h => a2 h.2.1)
      · rw [decide_eq_false a1]
        refine iteF ?_
        exact ⟨false, rfl, iteF (no fun h => a1 h.1)⟩
theorem ok_is_reset (D : DefAt K mg "is_reset" s_is_reset ["reset", "size", "device"]) (cis_word : Cal P w K mg base 2 "is_word" (spIsW K)) : Cal P w K mg base 3 "is_reset" (spIsRs K) := by
  refine D.cal sc_is_reset (fun vs H Q E h => ?_) (fun f cdv A outer s H vs Q E rm gd h => ?_)
  · obtain ⟨x, n, d, rfl, _⟩ := h
    rfl
  · obtain ⟨x, n, d, rfl, ox, n1, n2, q⟩ := h
    refine ⟨_, (pss_one (ps_ret (pe_and (pc cis_word rm (by decide) gd rfl (pa_cons (pv 0) (pa_cons (pv 1) pa_nil))) (pe_one (pe_or (pe_cmpR op_ne (pv 2) pe_str (nomark _)) (pe_one (pe_cmpR op_eq (pv 0) pe_int (nomark _)))))))), ?_⟩
    walk_at "go"
    refine ⟨x, n, rfl, ox, n1, n2, _, rfl, ?_⟩
    unfold isRs at q
    cases hw : isW n x with
    | false =>
      rw [hw] at q
      exact iteF q
    | true =>
      rw [hw] at q
      refine iteT ?_
      walk_at "go"
      rw [dS]
      have e2 : decide (d ≠ ("raise" : Str)) = !decide (d = ("raise" : Str)) := by by_cases h : d = ("raise" : Str) <;> simp [h]
      rw [e2] at q
      cases hd : decide (d = ("raise" : Str)) with
      | false =>
        rw [hd] at q
        exact iteT q
      | true =>
        rw [hd] at q
        refine iteF ?_
        cases x with
        | int v =>
          walk_at "go"
          exact q
        | _ => cases hw
end
end Law

set_option Elab.async false
set_option linter.all false
set_option maxRecDepth 100000
set_option maxHeartbeats 4000000
namespace Law
open PySem PySem.Spec PySem.Calls PyProof.Rows L2 KG LamX
local macro_rules | `(tactic| walk_at "1") => `(tactic| first
  | (with_reducible refine w_var rfl ?_) | (with_reducible refine w_c ?_) | (with_reducible refine w_seq ?_) | (with_reducible refine w_asg ?_) | (with_reducible refine w_gname ?_) | (with_reducible refine w_op ?_) | (with_reducible refine w_un ?_)
  | (with_reducible refine w_add ?_) | (with_reducible refine w_sub ?_) | ((with_reducible refine' w_mod ?mo ?_); (case mo => first | assumption | decide | omega)) | (with_reducible refine w_and ?_) | (with_reducible refine w_or ?_) | (with_reducible refine w_xor ?_)
  | (with_reducible refine w_gt ?_) | (with_reducible refine w_lt ?_) | (with_reducible refine w_ge ?_) | (with_reducible refine w_le ?_) | ((with_reducible refine' w_eq ?sc ?_); (case sc => rfl)) | ((with_reducible refine' w_ne ?sc ?_); (case sc => rfl))
  | (with_reducible refine w_ret ?_) | (with_reducible refine w_next ?_) | (with_reducible refine w_ifs ?_) | (with_reducible refine w_ifx ?_) | (with_reducible refine w_test ?_) | (with_reducible refine w_tB ?_) | (with_reducible refine w_bl ?_)
  | ((with_reducible refine' w_ixL ?ixh ?ixa ?_); (case ixh => first | exact SqL.of (by assumption)); (case ixa => first | rfl | skip)) | ((with_reducible refine' w_ixT ?ixh ?ixa ?_); (case ixh => first | exact SqT.of (by assumption)); (case ixa => first | rfl | skip))
  | ((with_reducible refine' w_fld ?_)) | ((with_reducible refine' fld ?fh ?fc ?fn ?fl ?_); (case fh => assumption); (case fc => assumption); (case fn => assumption); (case fl => rfl)) | (with_reducible refine w_sfld ?_)
  | (with_reducible refine Or.inl ⟨_, rfl, ?_⟩) | (with_reducible refine w_gsub ?_) | (with_reducible refine w_andV ?_) | (with_reducible refine w_orV ?_)
  | (with_reducible refine w_nil ?_) | (with_reducible refine w_cons ?_) | (with_reducible refine w_tup ?_) | (with_reducible refine w_lst ?_) | (with_reducible refine w_and2 ?_) | (with_reducible refine w_or2 ?_) | (with_reducible refine w_not ?_) | (with_reducible refine w_cb ?_) | (with_reducible refine w_call ?_) | (with_reducible refine w_par ?_) | (with_reducible refine w_pnil ?_) | (with_reducible refine w_pcons ?_) | (with_reducible refine w_dput ?_) | (with_reducible refine w_dget ?_) | (with_reducible refine w_for ?_) | (with_reducible refine w_itup ?_) | (with_reducible refine w_ilist ?_) | (with_reducible refine w_irng ?_) | (with_reducible refine w_meth ?_) | (with_reducible refine w_make ?_) | (with_reducible refine w_makeK ?_) | (with_reducible refine w_methK ?_) | ((with_reducible refine' mth ?mh ?ml ?_); (case mh => assumption); (case ml => rfl)) | (with_reducible refine w_drop ?_))
local macro_rules | `(tactic| walk_at "go") => `(tactic| ((repeat (walk_at "1")); try dsimp only))
local macro_rules | `(tactic| walk_at "1") => `(tactic| first
  | (with_reducible refine w_notV ?_) | (with_reducible refine w_callK ?_) | (with_reducible refine w_lc ?_) | (with_reducible refine w_chain ?_) | (with_reducible refine w_neg ?_) | ((with_reducible refine' w_shr ?mo ?_); (case mo => first | assumption | omega)))
theorem mono_v1 {i : Nat} {σ : L2.St} {H : Hp} {Q1 Q2 : List V → Hp → Prop} (h : ∀ vs H, Q1 vs H → Q2 vs H) (t : tCons (tVar i) tNil σ H Q1) : tCons (tVar i) tNil σ H Q2 := by
  obtain ⟨v, e, q⟩ := t
  exact ⟨v, e, h _ _ q⟩
theorem mono_vc {i : Nat} {c : V} {σ : L2.St} {H : Hp} {Q1 Q2 : List V → Hp → Prop} (h : ∀ vs H, Q1 vs H → Q2 vs H) (t : tCons (tVar i) (tCons (tC c) tNil) σ H Q1) : tCons (tVar i) (tCons (tC c) tNil) σ H Q2 := by
  obtain ⟨v, e, q⟩ := t
  exact ⟨v, e, h _ _ q⟩
theorem mono_vv {i j : Nat} {σ : L2.St} {H : Hp} {Q1 Q2 : List V → Hp → Prop} (h : ∀ vs H, Q1 vs H → Q2 vs H) (t : tCons (tVar i) (tCons (tVar j) tNil) σ H Q1) : tCons (tVar i) (tCons (tVar j) tNil) σ H Q2 := by
  obtain ⟨v, e, u, e2, q⟩ := t
  exact ⟨v, e, u, e2, h _ _ q⟩
theorem pass_no {X : Cx} : Passes (L2.CX X.prog X.w) X (fun _ _ _ => False) := fun _ _ _ _ _ _ _ h => by
  obtain ⟨_, _, _, _, _, _, _, _, _, _, _, _, z⟩ := h
  exact z.elim
section
variable {P : Program} {w : World} {K : PySem.W.Frag} {mg : Str → Option Value} {base : Heap}
theorem ok_is_name (D : DefAt K mg "is_name" s_is_name ["value"]) (G : G19 mg) (chas_only : Cal P w K mg base 1 "has_only" (spHasO K)) : Cal P w K mg base 2 "is_name" (spIsNm K) := by
  refine D.cal (k := 1) sc_is_name (fun vs H Q E h => ?_) (fun f cdv A outer s H vs Q E rm gd h => ?_)
  · obtain ⟨x, rfl, _⟩ := h
    rfl
  · obtain ⟨x, rfl, ov, q⟩ := h
    obtain ⟨t1, gNl⟩ := G.nam
    obtain ⟨t2, gCp⟩ := G.cap
    refine ⟨_, (pss_one (ps_ret (pe_and (pc chas_only rm (by decide) gd rfl (pa_cons (pv 0) (pa_cons (pe_glob (v := .str nameL) rfl gNl ⟨_, rfl⟩) pa_nil))) (pe_one (pe_cmpR op_in_sign (pe_ix ix_str (pv 0) pe_int (fun _ _ => rfl)) (pe_glob (v := .str capL) rfl gCp ⟨_, rfl⟩) rfl))))), ?_⟩
    walk_at "go"
    refine ⟨x, nameL, rfl, ov, fun H1 s1 => ⟨_, rfl, ?_⟩⟩
    have q := q H1 s1
    unfold isNm at q
    cases hx : hasO nameL x with
    | false =>
      rw [hx] at q
      exact iteF q
    | true =>
      rw [hx] at q
      refine iteT ?_
      walk_at "go"
      cases x with
      | str z =>
        have zl := ov.at_.shrt z rfl
        have z1 : 1 ≤ z.cps.toList.length := by
          have hx : (decide (1 ≤ z.length ∧ z.length ≤ 8) && _) = true := hx
          rw [Bool.and_eq_true, decide_eq_true_iff] at hx
          rw [Array.length_toList]
          exact hx.1.1
        cases hz : z.cps.toList with
        | nil =>
          rw [hz] at z1
          cases z1
        | cons c cs =>
          dsimp only at q
          rw [hz, Bool.true_and] at q
          refine ⟨z, 0, c, rfl, rfl, Nat.le_trans zl (by decide), ?_, ?_⟩
          · rw [hz]
            show atI (c :: cs) ((0 : Nat) : Int) = some c
            exact atI_nat rfl
          · walk_at "go"
            exact ⟨c, capL, rfl, rfl, q⟩
      | _ => cases hx
end
def RD : List Str := ["keep", "take"]
def WR : List Str := ["store", "clear1", "clear0", "set1", "flip1", "once", "none"]
def DV : List Str := ["still", "raise", "end", "drift"]
def kf (r w d : Str) (st : Addr) : List (Str × V) := [("reading", .str r), ("writing", .str w), ("device", .str d), ("states", .ref st)]
def KindAt (C : Addr) (H : Hp) (k : Addr) (r w d : Str) : Prop := ∃ dx st, H k = some (.ins C dx (kf r w d st))
structure K8 (K : PySem.W.Frag) (mg : Str → Option Value) (C : Addr) (mc : Value) : Prop where
  g_Kind : mg "Kind" = some (.ref C)
  g_isinstance : mg "isinstance" = none
  cl : Cls K C
  nR : NoAttr K C "reading"
  nW : NoAttr K C "writing"
  nD : NoAttr K C "device"
  nS : NoAttr K C "states"
  rd : ClX.CRead K C mc
  cR : ∃ a, ClX.CVal K C mc "READINGS" (.ref a) (.ref a) ∧ KTup K a (RD.map V.str)
  cW : ∃ a, ClX.CVal K C mc "WRITINGS" (.ref a) (.ref a) ∧ KTup K a (WR.map V.str)
  cD : ∃ a, ClX.CVal K C mc "DEVICES" (.ref a) (.ref a) ∧ KTup K a (DV.map V.str)
  isC : PySem.W.findIn K (.ref C) "__class__" = some (some (.builtin "object.__class__"))
  isG : PySem.W.specialIn K (.builtin "object.__class__") "__get__" = some (some (.builtin "getset_descriptor.__get__"))
  isT : PySem.W.takesIn K (.builtin "object.__class__") = some true
  isM : PySem.W.mroIn K C (.type "object") = some true
def spIK (K : PySem.W.Frag) (C cK : Addr) : Sp := fun vs H Q E => ∃ (x dx : Addr) (a b c : V), vs = [.ref x, a, b, c] ∧ H x = some (.ins C dx []) ∧ OdV K H a ∧ OdV K H b ∧ OdV K H c ∧
  (badW RD a = true → ∀ (dd : Addr) (H' : Hp), Same H H' → H' dd = some (.xd [("value", a)]) → E (.ref cK) (some dd) H') ∧
  (badW RD a = false → badW WR b = true → ∀ (dd : Addr) (H' : Hp), Same H H' → H' dd = some (.xd [("value", b)]) → E (.ref cK) (some dd) H') ∧
  (badW RD a = false → badW WR b = false → badW DV c = true → ∀ (dd : Addr) (H' : Hp), Same H H' → H' dd = some (.xd [("value", c)]) → E (.ref cK) (some dd) H') ∧
  (badW RD a = false → badW WR b = false → badW DV c = false → ∃ r w d, a = .str r ∧ b = .str w ∧ c = .str d ∧ ∀ H', KindAt C H' x r w d → (∀ b o, H b = some o → b ≠ x → H' b = some o) → Q .non H')
section
variable {P : Program} {w : World} {K : PySem.W.Frag} {mg : Str → Option Value} {base : Heap} {C cK fK : Addr} {mc : Value}
theorem ok_IK {f : Addr} (D : MetAt K C "__init__" "Kind.__init__" s_Kind___init__ ["self", "reading", "writing", "device"] f) (T : K8 K mg C mc) (gK : mg "InvalidKind" = some (.ref cK))
    (OK : OexC K cK) (iK : PySem.W.findIn K (.ref cK) "__init__" = some (some (.ref fK))) (tK : PySem.W.typeIn K (.ref fK) = some (.type "function")) {fdK : FuncData} (GK : Gd P w K mg base (L2.CX P w) 1 fK fdK ["self", "value"] (spErr1 cK "value")) (bK : Binds K fdK ["self", "value"] []) :
    ∃ fd, Meth K C "__init__" f ∧ Fun K "__init__" "Kind.__init__" s_Kind___init__ f fd ∧ Binds K fd ["self", "reading", "writing", "device"] [] ∧ Gd P w K mg base (L2.CX P w) 3 f fd ["self", "reading", "writing", "device"] (spIK K C cK) := by
  refine D.gdx (k := 2) sc_Kind___init__ (fun vs H Q E h => ?_) (fun cdv A outer s H vs Q E rm gd h => ?_)
  · obtain ⟨x, dx, a, b, c, rfl, _⟩ := h
    rfl
  · obtain ⟨x, dx, a, b, c, rfl, hx, ha, hb, hc, q1, q2, q3, q⟩ := h
    obtain ⟨aR, cR, kR⟩ := T.cR
    obtain ⟨bW, cW, kW⟩ := T.cW
    obtain ⟨aD, cD, kD⟩ := T.cD
    have cl := T.cl
    have nR := T.nR
    have nW := T.nW
    have nD := T.nD
    have nS := T.nS
    have tk := takes_cx (P := P) (w := w) (K := K) (mg := mg) (base := base) (N := ["self", "reading", "writing", "device", "value", "words"]) (qual := "Kind.__init__") (sc := defScope s_Kind___init__) (f := f) (cd := cdv) (A := A) (outer := outer) (s := s) (H := H) (E := E)
    refine ⟨_, (pss_cons (ps_for own_cx rfl (pi_tup (pe_tup (pa_cons (pe_tup (pa_cons (pv 1) (pa_cons (ClX.pe_cval (pe_glob (v := .ref C) rfl T.g_Kind rfl)) pa_nil))) (pa_cons (pe_tup (pa_cons (pv 2) (pa_cons (ClX.pe_cval (pe_glob (v := .ref C) rfl T.g_Kind rfl)) pa_nil))) (pa_cons (pe_tup (pa_cons (pv 3) (pa_cons (ClX.pe_cval (pe_glob (v := .ref C) rfl T.g_Kind rfl)) pa_nil))) pa_nil))))) (pg_tup rfl (pgs_cons (pg_name (i := 4) sc_Kind___init__.nd rfl (Or.inl rfl)) (pgs_cons (pg_name (i := 5) sc_Kind___init__.nd rfl (Or.inl rfl)) pgs_nil)))
      (pss_one (ps_if (pt_cmpR (op_notInC rm) (pv 4) (pv 5) rfl)
        (pss_one (ps_raise rfl tk (pmk_own OK iK tK GK rm gd bK .nil pass_no rfl gK (pa_cons (pv 4) pa_nil))))
        pss_nil)))
    (pss_cons (ps_fld (pv 0) (pv 1) rfl)
    (pss_cons (ps_fld (pv 0) (pv 2) rfl)
    (pss_cons (ps_fld (pv 0) (pv 3) rfl)
    (pss_one (ps_fld (pv 0) (pe_ifExp (pt_cmpR op_eq (pv 2) pe_str (nomark _)) (pe_tup (pa_cons pe_int (pa_cons pe_int (pa_cons pe_int (pa_cons pe_int pa_nil))))) (pe_tup (pa_cons pe_int (pa_cons pe_int pa_nil)))) rfl)))))), ?_⟩
    walk_at "go"
    refine ⟨C, mc, .ref aR, .ref aR, rfl, T.rd, cR, ?_⟩
    walk_at "go"
    refine new (by show 2 ≤ sizeLine; decide) fun t1 H1 n1 h1 s1 => ?_
    walk_at "go"
    refine ⟨C, mc, .ref bW, .ref bW, rfl, T.rd, cW, ?_⟩
    walk_at "go"
    refine new (by show 2 ≤ sizeLine; decide) fun t2 H2 n2 h2 s2 => ?_
    walk_at "go"
    refine ⟨C, mc, .ref aD, .ref aD, rfl, T.rd, cD, ?_⟩
    walk_at "go"
    refine new (by show 2 ≤ sizeLine; decide) fun t3 H3 n3 h3 s3 => ?_
    walk_at "go"
    refine new (by show 3 ≤ sizeLine; decide) fun t4 H4 n4 h4 s4 => ?_
    have sA := s1.trans (s2.trans (s3.trans s4))
    have err : ∀ {v : V} {σ : L2.St} {H5 : Hp}, Same H4 H5 → σ[4]? = some (some v) → (∀ (dd : Addr) (H' : Hp), Same H H' → H' dd = some (.xd [("value", v)]) → E (.ref cK) (some dd) H') →
        tMkO cK (spErr1 cK "value") [] (tCons (tVar 4) tNil) σ H5 (fun cls d H' => E cls d H') := fun {v σ H5} z hv q => by
      refine mk1 mono_v1 ?_
      refine w_cons (w_var hv (w_nil ⟨v, rfl, fun dd H6 nd hd keep => q dd H6 (fun b o e => ?_) hd⟩))
      have e5 := z _ _ (sA _ _ e)
      exact (keep b (ne_of_none e5 nd)).trans e5
    refine over_t (SqT.of h4) (for_tup (xs := [.ref t1, .ref t2, .ref t3]) (fun i σ H' => (∃ v4 v5, σ = [some (.ref x), some a, some b, some c, v4, v5]) ∧ Same H4 H' ∧ (1 ≤ i → badW RD a = false) ∧ (2 ≤ i → badW WR b = false) ∧ (3 ≤ i → badW DV c = false)) ⟨⟨none, none, rfl⟩, Same.refl _, nofun, nofun, nofun⟩ (fun i σ H' _ ⟨_, z, _⟩ => SqT.of (z _ _ h4)) ?_ ?_)
    · rintro i y σ H' hi ⟨⟨v4, v5, rfl⟩, z, b1, b2, b3⟩
      match i, hi with
      | 0, hi =>
        cases hi
        refine ⟨t1, [a, .ref aR], rfl, SqT.of (z _ _ (s4 _ _ (s3 _ _ (s2 _ _ h1)))), rfl, _, _, rfl, _, _, rfl, rfl, ?_⟩
        walk_at "go"
        refine od_notIn (ha.sm (sA.trans z)).at_ kR (by decide +kernel) ?_
        walk_at "go"
        refine ite2 (fun h => ?_) (fun h => ?_)
        · exact err z rfl (q1 h)
        · exact ⟨⟨_, _, rfl⟩, z, fun _ => Bool.eq_false_iff.mpr h, fun y => absurd y (by decide), fun y => absurd y (by decide)⟩
      | 1, hi =>
        cases hi
        refine ⟨t2, [b, .ref bW], rfl, SqT.of (z _ _ (s4 _ _ (s3 _ _ h2))), rfl, _, _, rfl, _, _, rfl, rfl, ?_⟩
        walk_at "go"
        refine od_notIn (hb.sm (sA.trans z)).at_ kW (by decide +kernel) ?_
        walk_at "go"
        refine ite2 (fun h => ?_) (fun h => ?_)
        · exact err z rfl (q2 (b1 (by decide)) h)
        · exact ⟨⟨_, _, rfl⟩, z, fun _ => b1 (by decide), fun _ => Bool.eq_false_iff.mpr h, fun y => absurd y (by decide)⟩
      | 2, hi =>
        cases hi
        refine ⟨t3, [c, .ref aD], rfl, SqT.of (z _ _ (s4 _ _ h3)), rfl, _, _, rfl, _, _, rfl, rfl, ?_⟩
        walk_at "go"
        refine od_notIn (hc.sm (sA.trans z)).at_ kD (by decide +kernel) ?_
        walk_at "go"
        refine ite2 (fun h => ?_) (fun h => ?_)
        · exact err z rfl (q3 (b1 (by decide)) (b2 (by decide)) h)
        · exact ⟨⟨_, _, rfl⟩, z, fun _ => b1 (by decide), fun _ => b2 (by decide), fun _ => Bool.eq_false_iff.mpr h⟩
    · rintro σ H5 ⟨⟨v4, v5, rfl⟩, z, b1, b2, b3⟩
      obtain ⟨r, wr, d, rfl, rfl, rfl, q9⟩ := q (b1 (show 1 ≤ 3 by decide)) (b2 (show 2 ≤ 3 by decide)) (b3 (show 3 ≤ 3 by decide))
      have s5 := sA.trans z
      have hx5 := s5 _ _ hx
      walk_at "go"
      refine sfld hx5 cl nR (by show 0 < 1000; decide) rfl fun H6 h6 e6 => ?_
      walk_at "go"
      refine sfld h6 cl nW (by show 1 < 1000; decide) rfl fun H7 h7 e7 => ?_
      walk_at "go"
      refine sfld h7 cl nD (by show 2 < 1000; decide) rfl fun H8 h8 e8 => ?_
      walk_at "go"
      have fin : ∀ (st : Addr) (H9 H10 : Hp), Same H8 H9 → H10 x = some (.ins C dx (kf r wr d st)) → (∀ b, b ≠ x → H10 b = H9 b) → Q .non H10 := fun st H9 H10 s9 hx10 e10 => by
        refine q9 H10 ⟨dx, st, hx10⟩ fun b o e nb => ?_
        rw [e10 b nb]
        refine s9 _ _ ?_
        rw [e8 b nb, e7 b nb, e6 b nb]
        exact s5 _ _ e
      refine ite2 (fun h => ?_) (fun h => ?_)
      · walk_at "go"
        refine new (by show 4 ≤ sizeLine; decide) fun st H9 n9 h9 s9 => ?_
        walk_at "go"
        refine sfld (s9 _ _ h8) cl nS (by show 3 < 1000; decide) rfl fun H10 h10 e10 => ?_
        exact fin st H9 H10 s9 h10 e10
      · walk_at "go"
        refine new (by show 2 ≤ sizeLine; decide) fun st H9 n9 h9 s9 => ?_
        walk_at "go"
        refine sfld (s9 _ _ h8) cl nS (by show 3 < 1000; decide) rfl fun H10 h10 e10 => ?_
        exact fin st H9 H10 s9 h10 e10
end
end Law

set_option Elab.async false
set_option linter.all false
set_option maxRecDepth 100000
set_option maxHeartbeats 4000000
namespace Law
open PySem PySem.Spec PySem.Calls PyProof.Rows L2 KG LamX
local macro_rules | `(tactic| walk_at "1") => `(tactic| first
  | (with_reducible refine w_var rfl ?_) | (with_reducible refine w_c ?_) | (with_reducible refine w_seq ?_) | (with_reducible refine w_asg ?_) | (with_reducible refine w_gname ?_) | (with_reducible refine w_op ?_) | (with_reducible refine w_un ?_)
  | (with_reducible refine w_add ?_) | (with_reducible refine w_sub ?_) | ((with_reducible refine' w_mod ?mo ?_); (case mo => first | assumption | decide | omega)) | (with_reducible refine w_and ?_) | (with_reducible refine w_or ?_) | (with_reducible refine w_xor ?_)
  | (with_reducible refine w_gt ?_) | (with_reducible refine w_lt ?_) | (with_reducible refine w_ge ?_) | (with_reducible refine w_le ?_) | ((with_reducible refine' w_eq ?sc ?_); (case sc => rfl)) | ((with_reducible refine' w_ne ?sc ?_); (case sc => rfl))
  | (with_reducible refine w_ret ?_) | (with_reducible refine w_next ?_) | (with_reducible refine w_ifs ?_) | (with_reducible refine w_ifx ?_) | (with_reducible refine w_test ?_) | (with_reducible refine w_tB ?_) | (with_reducible refine w_bl ?_)
  | ((with_reducible refine' w_ixL ?ixh ?ixa ?_); (case ixh => first | exact SqL.of (by assumption)); (case ixa => first | rfl | skip)) | ((with_reducible refine' w_ixT ?ixh ?ixa ?_); (case ixh => first | exact SqT.of (by assumption)); (case ixa => first | rfl | skip))
  | ((with_reducible refine' w_fld ?_)) | ((with_reducible refine' fld ?fh ?fc ?fn ?fl ?_); (case fh => assumption); (case fc => assumption); (case fn => assumption); (case fl => rfl)) | (with_reducible refine w_sfld ?_)
  | (with_reducible refine Or.inl ⟨_, rfl, ?_⟩) | (with_reducible refine w_gsub ?_) | (with_reducible refine w_andV ?_) | (with_reducible refine w_orV ?_)
  | (with_reducible refine w_nil ?_) | (with_reducible refine w_cons ?_) | (with_reducible refine w_tup ?_) | (with_reducible refine w_lst ?_) | (with_reducible refine w_and2 ?_) | (with_reducible refine w_or2 ?_) | (with_reducible refine w_not ?_) | (with_reducible refine w_cb ?_) | (with_reducible refine w_call ?_) | (with_reducible refine w_par ?_) | (with_reducible refine w_pnil ?_) | (with_reducible refine w_pcons ?_) | (with_reducible refine w_dput ?_) | (with_reducible refine w_dget ?_) | (with_reducible refine w_for ?_) | (with_reducible refine w_itup ?_) | (with_reducible refine w_ilist ?_) | (with_reducible refine w_irng ?_) | (with_reducible refine w_meth ?_) | (with_reducible refine w_make ?_) | (with_reducible refine w_makeK ?_) | (with_reducible refine w_methK ?_) | ((with_reducible refine' mth ?mh ?ml ?_); (case mh => assumption); (case ml => rfl)) | (with_reducible refine w_drop ?_))
local macro_rules | `(tactic| walk_at "go") => `(tactic| ((repeat (walk_at "1")); try dsimp only))
local macro_rules | `(tactic| walk_at "1") => `(tactic| first
  | (with_reducible refine w_notV ?_) | (with_reducible refine w_callK ?_) | (with_reducible refine w_lc ?_) | (with_reducible refine w_chain ?_) | (with_reducible refine w_neg ?_) | ((with_reducible refine' w_shr ?mo ?_); (case mo => first | assumption | omega)))
def spEQ (K : PySem.W.Frag) (C : Addr) : Sp := fun vs H Q _ => (∃ (k j : Addr) (r w d r' w' d' : Str), vs = [.ref k, .ref j] ∧ KindAt C H k r w d ∧ KindAt C H j r' w' d' ∧ Q (.bl (decide (r = r') && decide (w = w') && decide (d = d'))) H) ∨
  (∃ (k : Addr) (y : V) (t : Value), vs = [.ref k, y] ∧ TyX K H y t ∧ PySem.W.kitOne K t (.ref C) = some false ∧ Q (.bl false) H)
section
variable {P : Program} {w : World} {K : PySem.W.Frag} {mg : Str → Option Value} {base : Heap} {C CF : Addr} {mc : Value}
theorem ty_kind (T : K8 K mg C mc) {H : Hp} {k : Addr} {r wr d : Str} (h : KindAt C H k r wr d) : TyX K H (.ref k) (.ref C) := by
  obtain ⟨dx, st, hk⟩ := h
  exact .base (.ins hk T.cl T.isC T.isG T.isT T.isM)
theorem ok_EQ {f : Addr} (D : MetAt K C "__eq__" "Kind.__eq__" s_Kind___eq__ ["self", "other"] f) (T : K8 K mg C mc) : ∃ fd, Meth K C "__eq__" f ∧ Fun K "__eq__" "Kind.__eq__" s_Kind___eq__ f fd ∧ Binds K fd ["self", "other"] [] ∧ Gd P w K mg base CX0 1 f fd ["self", "other"] (spEQ K C) := by
  refine D.gd sc_Kind___eq__ (fun vs H Q E h => ?_) (fun cdv A outer s H vs Q E rm gd h => ?_)
  · rcases h with ⟨k, j, r, w, d, r', w', d', rfl, _⟩ | ⟨k, y, t, rfl, _⟩ <;> rfl
  · have B := T
    rcases h with ⟨k, j, r, wr, d, r', w', d', rfl, Hk, Hj, q⟩ | ⟨k, y, t, rfl, ty, kt, q⟩
    rotate_left
    · refine ⟨_, (pss_one (ps_ret (pe_and (pe_callB call_isi (by rfl) B.g_isinstance (by decide +kernel) (pa_cons (pv 1) (pa_cons (pe_glob (v := .ref C) rfl T.g_Kind rfl) pa_nil))) (pe_and (pe_cmpR op_eq (pe_fld (pv 0) rfl) (pe_fld (pv 1) rfl) (nomark _)) (pe_and (pe_cmpR op_eq (pe_fld (pv 0) rfl) (pe_fld (pv 1) rfl) (nomark _)) (pe_one (pe_cmpR op_eq (pe_fld (pv 0) rfl) (pe_fld (pv 1) rfl) (nomark _)))))))), ?_⟩
      walk_at "go"
      refine ⟨y, .ref C, t, .ref C, false, rfl, .own C, ty, kt, false, rfl, ?_⟩
      exact iteF q
    obtain ⟨dx, st, hk⟩ := id Hk
    obtain ⟨dy, su, hj⟩ := id Hj
    have cl := T.cl
    have nR := T.nR
    have nW := T.nW
    have nD := T.nD
    refine ⟨_, (pss_one (ps_ret (pe_and (pe_callB call_isi (by rfl) B.g_isinstance (by decide +kernel) (pa_cons (pv 1) (pa_cons (pe_glob (v := .ref C) rfl T.g_Kind rfl) pa_nil))) (pe_and (pe_cmpR op_eq (pe_fld (pv 0) rfl) (pe_fld (pv 1) rfl) (nomark _)) (pe_and (pe_cmpR op_eq (pe_fld (pv 0) rfl) (pe_fld (pv 1) rfl) (nomark _)) (pe_one (pe_cmpR op_eq (pe_fld (pv 0) rfl) (pe_fld (pv 1) rfl) (nomark _)))))))), ?_⟩
    walk_at "go"
    refine ⟨.ref j, .ref C, .ref C, .ref C, true, rfl, .own C, ty_kind T Hj, if_pos (beq_self_eq_true _), true, rfl, ?_⟩
    refine iteT ?_
    walk_at "go"
    rw [dS]
    by_cases h1 : r = r'
    · rw [decide_eq_true h1] at q ⊢
      refine iteT ?_
      walk_at "go"
      rw [dS]
      by_cases h2 : wr = w'
      · rw [decide_eq_true h2] at q ⊢
        refine iteT ?_
        walk_at "go"
        rw [dS]
        exact q
      · rw [decide_eq_false h2] at q ⊢
        exact iteF q
    · rw [decide_eq_false h1] at q ⊢
      exact iteF q
/-! ### fields -/
abbrev flds (k : Addr) (n lo sz r w d rs lk ky cm hd : V) : List (Str × V) := [("kind", .ref k), ("name", n), ("low", lo), ("size", sz), ("reading", r), ("writing", w), ("device", d), ("reset", rs), ("lock", lk), ("key", ky), ("commit", cm), ("held", hd)]
structure F19 (K : PySem.W.Frag) (mg : Str → Option Value) (CF : Addr) : Prop where
  g : mg "Field" = some (.ref CF)
  cl : Cls K CF
  n1 : NoAttr K CF "kind"
  n2 : NoAttr K CF "name"
  n3 : NoAttr K CF "low"
  n4 : NoAttr K CF "size"
  n5 : NoAttr K CF "reading"
  n6 : NoAttr K CF "writing"
  n7 : NoAttr K CF "device"
  n8 : NoAttr K CF "reset"
  n9 : NoAttr K CF "lock"
  n10 : NoAttr K CF "key"
  n11 : NoAttr K CF "commit"
  n12 : NoAttr K CF "held"
def mbh (lk ky cm : V) (r w d : Str) : Bool := decide (lk = .non) && (decide (ky = .non) && (decide (cm = .non) && (decide (r = "keep") && (decide (w = "none") && (decide (d = "still") || decide (d = "drift"))))))
def spMH (CF : Addr) : Sp := fun vs H Q _ => ∃ (x dx k : Addr) (n lo sz rs lk ky cm hd : V) (r w d : Str), vs = [.ref x] ∧ H x = some (.ins CF dx (flds k n lo sz (.str r) (.str w) (.str d) rs lk ky cm hd)) ∧ ∀ H', Same H H' → Q (.bl (mbh lk ky cm r w d)) H'
theorem ok_MH {f : Addr} (D : MetAt K CF "may_be_held" "Field.may_be_held" s_Field_may_be_held ["self"] f) (T : F19 K mg CF) : ∃ fd, Meth K CF "may_be_held" f ∧ Fun K "may_be_held" "Field.may_be_held" s_Field_may_be_held f fd ∧ Binds K fd ["self"] [] ∧ Gd P w K mg base CX0 1 f fd ["self"] (spMH CF) := by
  refine D.gd sc_Field_may_be_held (fun vs H Q E h => ?_) (fun cdv A outer s H vs Q E rm gd h => ?_)
  · obtain ⟨x, dx, k, n, lo, sz, rs, lk, ky, cm, hd, r, w, d, rfl, _⟩ := h
    rfl
  · obtain ⟨x, dx, k, n, lo, sz, rs, lk, ky, cm, hd, r, wr, d, rfl, hx, q⟩ := h
    have cl := T.cl
    have n5 := T.n5
    have n6 := T.n6
    have n7 := T.n7
    have n9 := T.n9
    have n10 := T.n10
    have n11 := T.n11
    refine ⟨_, (pss_mid (ps_if (PW.pt (pw_or (pt_cmpR op_notN (pe_fld (pv 0) rfl) pe_non (nomark _)) (pw_or (pt_cmpR op_notN (pe_fld (pv 0) rfl) pe_non (nomark _)) (pw_or1 (pt_cmpR op_notN (pe_fld (pv 0) rfl) pe_non (nomark _))))))
      (pss_one (ps_ret pe_bl))
      pss_nil)
    (pss_one (ps_ret (pe_and (pe_cmpR op_eq (pe_fld (pv 0) rfl) pe_str (nomark _)) (pe_and (pe_cmpR op_eq (pe_fld (pv 0) rfl) pe_str (nomark _)) (pe_one (pe_cmpR op_in_seq (pe_fld (pv 0) rfl) (pe_tup (pa_cons pe_str (pa_cons pe_str pa_nil))) rfl))))))), ?_⟩
    refine w_mid (fun σ' H' => σ' = [some (.ref x)] ∧ H' = H ∧ lk = .non ∧ ky = .non ∧ cm = .non) ?_ ?_
    · have no : ¬ (lk = .non ∧ ky = .non ∧ cm = .non) → Q (.bl false) H := fun h => by
        have e : mbh lk ky cm r wr d = false := by
          unfold mbh
          by_cases a1 : lk = .non
          · by_cases a2 : ky = .non
            · by_cases a3 : cm = .non
              · exact (h ⟨a1, a2, a3⟩).elim
              · simp [a3]
            · simp [a2]
          · simp [a1]
        have := q H (Same.refl _)
        rw [e] at this
        exact this
      walk_at "go"
      refine ⟨rfl, ?_⟩
      by_cases a1 : lk = .non
      · rw [decide_eq_true a1]
        refine ⟨false, rfl, iteF ?_⟩
        walk_at "go"
        refine ⟨rfl, ?_⟩
        by_cases a2 : ky = .non
        · rw [decide_eq_true a2]
          refine ⟨false, rfl, iteF ?_⟩
          walk_at "go"
          refine ⟨rfl, ?_⟩
          by_cases a3 : cm = .non
          · rw [decide_eq_true a3]
            refine ⟨false, rfl, iteF ?_⟩
            exact ⟨rfl, rfl, a1, a2, a3⟩
          · rw [decide_eq_false a3]
            refine ⟨true, rfl, iteT ?_⟩
            walk_at "go"
            exact no fun h => a3 h.2.2
        · rw [decide_eq_false a2]
          refine ⟨true, rfl, iteT ?_⟩
          refine iteT ?_
          walk_at "go"
          exact no fun h => a2 h.2.1
      · rw [decide_eq_false a1]
        refine ⟨true, rfl, iteT ?_⟩
        refine iteT ?_
        walk_at "go"
        exact no fun h => a1 h.1
    · rintro σ' H' ⟨rfl, rfl, rfl, rfl, rfl⟩
      have e : mbh .non .non .non r wr d = (decide (r = "keep") && (decide (wr = "none") && (decide (d = "still") || decide (d = "drift")))) := by simp [mbh]
      rw [e] at q
      walk_at "go"
      rw [dS]
      cases h1 : decide (r = ("keep" : Str)) with
      | false =>
        rw [h1] at q
        exact iteF (q H' (Same.refl _))
      | true =>
        rw [h1] at q
        refine iteT ?_
        walk_at "go"
        rw [dS]
        cases h2 : decide (wr = ("none" : Str)) with
        | false =>
          rw [h2] at q
          exact iteF (q H' (Same.refl _))
        | true =>
          rw [h2] at q
          refine iteT ?_
          walk_at "go"
          refine new (show 2 ≤ sizeLine by decide) fun t1 H1 n1 h1 s1 => ?_
          refine w_in (.inr (SqT.of h1)) rfl rfl ?_
          rw [if_neg (by decide)]
          have e2 : inV (.str d) [.str "still", .str "drift"] = (decide (d = "still") || decide (d = "drift")) := by
            unfold inV
            simp only [List.any_cons, List.any_nil, Bool.or_false]
            congr 1 <;> (show decide (_ = _) = _; rw [Bool.eq_iff_iff, decide_eq_true_iff, decide_eq_true_iff]; exact eq_comm)
          rw [e2]
          exact q H1 s1
end
end Law

set_option Elab.async false
set_option linter.all false
set_option maxRecDepth 100000
set_option maxHeartbeats 4000000
namespace Law
open PySem PySem.Spec PySem.Calls PyProof.Rows L2 KG LamX
local macro_rules | `(tactic| walk_at "1") => `(tactic| first
  | (with_reducible refine w_var rfl ?_) | (with_reducible refine w_c ?_) | (with_reducible refine w_seq ?_) | (with_reducible refine w_asg ?_) | (with_reducible refine w_gname ?_) | (with_reducible refine w_op ?_) | (with_reducible refine w_un ?_)
  | (with_reducible refine w_add ?_) | (with_reducible refine w_sub ?_) | ((with_reducible refine' w_mod ?mo ?_); (case mo => first | assumption | decide | omega)) | (with_reducible refine w_and ?_) | (with_reducible refine w_or ?_) | (with_reducible refine w_xor ?_)
  | (with_reducible refine w_gt ?_) | (with_reducible refine w_lt ?_) | (with_reducible refine w_ge ?_) | (with_reducible refine w_le ?_) | ((with_reducible refine' w_eq ?sc ?_); (case sc => rfl)) | ((with_reducible refine' w_ne ?sc ?_); (case sc => rfl))
  | (with_reducible refine w_ret ?_) | (with_reducible refine w_next ?_) | (with_reducible refine w_ifs ?_) | (with_reducible refine w_ifx ?_) | (with_reducible refine w_test ?_) | (with_reducible refine w_tB ?_) | (with_reducible refine w_bl ?_)
  | ((with_reducible refine' w_ixL ?ixh ?ixa ?_); (case ixh => first | exact SqL.of (by assumption)); (case ixa => first | rfl | skip)) | ((with_reducible refine' w_ixT ?ixh ?ixa ?_); (case ixh => first | exact SqT.of (by assumption)); (case ixa => first | rfl | skip))
  | ((with_reducible refine' w_fld ?_)) | ((with_reducible refine' fld ?fh ?fc ?fn ?fl ?_); (case fh => assumption); (case fc => assumption); (case fn => assumption); (case fl => rfl)) | (with_reducible refine w_sfld ?_)
  | (with_reducible refine Or.inl ⟨_, rfl, ?_⟩) | (with_reducible refine w_gsub ?_) | (with_reducible refine w_andV ?_) | (with_reducible refine w_orV ?_)
  | (with_reducible refine w_nil ?_) | (with_reducible refine w_cons ?_) | (with_reducible refine w_tup ?_) | (with_reducible refine w_lst ?_) | (with_reducible refine w_and2 ?_) | (with_reducible refine w_or2 ?_) | (with_reducible refine w_not ?_) | (with_reducible refine w_cb ?_) | (with_reducible refine w_call ?_) | (with_reducible refine w_par ?_) | (with_reducible refine w_pnil ?_) | (with_reducible refine w_pcons ?_) | (with_reducible refine w_dput ?_) | (with_reducible refine w_dget ?_) | (with_reducible refine w_for ?_) | (with_reducible refine w_itup ?_) | (with_reducible refine w_ilist ?_) | (with_reducible refine w_irng ?_) | (with_reducible refine w_meth ?_) | (with_reducible refine w_make ?_) | (with_reducible refine w_makeK ?_) | (with_reducible refine w_methK ?_) | ((with_reducible refine' mth ?mh ?ml ?_); (case mh => assumption); (case ml => rfl)) | (with_reducible refine w_drop ?_))
local macro_rules | `(tactic| walk_at "go") => `(tactic| ((repeat (walk_at "1")); try dsimp only))
local macro_rules | `(tactic| walk_at "1") => `(tactic| first
  | (with_reducible refine w_notV ?_) | (with_reducible refine w_callK ?_) | (with_reducible refine w_lc ?_) | (with_reducible refine w_chain ?_) | (with_reducible refine w_neg ?_) | ((with_reducible refine' w_shr ?mo ?_); (case mo => first | assumption | omega)))
def bdP (x : V) : Bool := !decide (x = .non) && !isNm x
def rsV (rs sz d : V) : Bool := match sz, d with | .int s, .str d => isRs rs s d | _, _ => false
def mbV (lk ky cm r w d : V) : Bool := match r, w, d with | .str r, .str w, .str d => mbh lk ky cm r w d | _, _, _ => false
def plainV (r w d : V) : Bool := decide (r = .str "keep") && decide (w = .str "store") && decide (d = .str "still")
/-- what is wrong with a field: a reason, a word that is none, or nothing -/
def dueF (n lo sz r w d rs lk ky cm hd : V) : Option (Str ⊕ V) :=
  if isNm n = false then some (.inl "name") else if isPl lo sz = false then some (.inl "place")
  else if badW RD r = true then some (.inr r) else if badW WR w = true then some (.inr w) else if badW DV d = true then some (.inr d)
  else if rsV rs sz d = false then some (.inl "reset")
  else if bdP lk = true then some (.inl "lock") else if bdP ky = true then some (.inl "key") else if bdP cm = true then some (.inl "commit") else if bdP hd = true then some (.inl "held")
  else if (!decide (hd = .non) && !mbV lk ky cm r w d) = true then some (.inl "held") else if (!decide (cm = .non) && !plainV r w d) = true then some (.inl "commit") else none
theorem due_end {n lo sz r w d rs lk ky cm hd : V} (hn : isNm n = true) (hp : isPl lo sz = true) (b1 : badW RD r = false) (b2 : badW WR w = false) (b3 : badW DV d = false) (hr : rsV rs sz d = true) (p1 : bdP lk = false) (p2 : bdP ky = false) (p3 : bdP cm = false) (p4 : bdP hd = false) :
    dueF n lo sz r w d rs lk ky cm hd = if (!decide (hd = .non) && !mbV lk ky cm r w d) = true then some (.inl "held") else if (!decide (cm = .non) && !plainV r w d) = true then some (.inl "commit") else none := by
  unfold dueF
  rw [if_neg (by rw [hn]; decide), if_neg (by rw [hp]; decide), if_neg (by rw [b1]; decide), if_neg (by rw [b2]; decide), if_neg (by rw [b3]; decide), if_neg (by rw [hr]; decide), if_neg (by rw [p1]; decide), if_neg (by rw [p2]; decide), if_neg (by rw [p3]; decide), if_neg (by rw [p4]; decide)]
theorem badW_str {l : List Str} {x : V} (h : badW l x = false) : ∃ z ∈ l, x = .str z := by
  cases x with
  | str z =>
    have h : (!(l.any fun w => decide (w = z))) = false := h
    rw [Bool.not_eq_false', List.any_eq_true] at h
    obtain ⟨y, hy, e⟩ := h
    rw [decide_eq_true_iff] at e
    exact ⟨z, e ▸ hy, rfl⟩
  | _ => cases h
def Kp (p : Addr) (H H' : Hp) : Prop := ∀ b o, H b = some o → b ≠ p → H' b = some o
def spIF (K : PySem.W.Frag) (C CF cK cF : Addr) : Sp := fun vs H Q E => ∃ (x dx : Addr) (n lo sz r w d rs lk ky cm hd : V), vs = [.ref x, n, lo, sz, r, w, d, rs, lk, ky, cm, hd] ∧ H x = some (.ins CF dx []) ∧
  (OdV K H n ∧ OdV K H lo ∧ OdV K H sz ∧ OdV K H r ∧ OdV K H w ∧ OdV K H d ∧ OdV K H rs ∧ OdV K H lk ∧ OdV K H ky ∧ OdV K H cm ∧ OdV K H hd) ∧
  (∀ z : Str, dueF n lo sz r w d rs lk ky cm hd = some (.inl z) → ∀ (dd : Addr) (H' : Hp), Kp x H H' → H' dd = some (.xd [("reason", .str z), ("name", n)]) → E (.ref cF) (some dd) H') ∧
  (∀ v : V, dueF n lo sz r w d rs lk ky cm hd = some (.inr v) → ∀ (dd : Addr) (H' : Hp), Kp x H H' → H' dd = some (.xd [("value", v)]) → E (.ref cK) (some dd) H') ∧
  (dueF n lo sz r w d rs lk ky cm hd = none → ∀ (k : Addr) (a b c : Str) (H' : Hp), r = .str a → w = .str b → d = .str c → H' x = some (.ins CF dx (flds k n lo sz r w d rs lk ky cm hd)) → KindAt C H' k a b c → Kp x H H' → Q .non H')
section
variable {P : Program} {w : World} {K : PySem.W.Frag} {mg : Str → Option Value} {base : Heap} {C CF cK cF fF fK fMH fEQ : Addr} {mc : Value}
theorem ok_IF {f fI : Addr} {fd fdF fdK fdI fdEQ : FuncData} {dvs : List V} {kws : List (Str × V)} (F : FunD K "__init__" "Field.__init__" (defArgs s_Field___init__) (defBody s_Field___init__) (defScope s_Field___init__) dvs kws f fd)
    (T : K8 K mg C mc) (TF : F19 K mg CF) (ne : CF ≠ C) (gF : mg "InvalidField" = some (.ref cF))
    (OF : OexC K cF) (iF : PySem.W.findIn K (.ref cF) "__init__" = some (some (.ref fF))) (tF : PySem.W.typeIn K (.ref fF) = some (.type "function")) (GF : Gd P w K mg base (L2.CX P w) 1 fF fdF ["self", "name", "reason"] (spErr2 cF "name" "reason")) (bF : Binds K fdF ["self", "name", "reason"] [])
    (MK : Mk K C fI) (FIK : Gd P w K mg base (L2.CX P w) 3 fI fdI ["self", "reading", "writing", "device"] (spIK K C cK)) (bIK : Binds K fdI ["self", "reading", "writing", "device"] [])
    (cis_name : Cal P w K mg base 2 "is_name" (spIsNm K)) (cis_place : Cal P w K mg base 2 "is_place" (spIsPl K)) (cis_reset : Cal P w K mg base 3 "is_reset" (spIsRs K))
    (mMH : Met P w K mg base 1 CF "may_be_held" fMH (spMH CF))
    (FEQ : Gd P w K mg base CX0 1 fEQ fdEQ ["self", "other"] (spEQ K C)) (bEQ : Binds K fdEQ ["self", "other"] []) (eqI : PySem.W.findIn K (.ref C) "__eq__" = some (some (.ref fEQ))) (eqF : PySem.W.isFn K (.ref fEQ) = true) (neI : PySem.W.findIn K (.ref C) "__ne__" = some (some (.builtin "object.__ne__"))) (nfC : PySem.W.notFirst K C (.ref C) = true) :
    Gd P w K mg base (L2.CX P w) 5 f fd ["self", "name", "low", "size", "reading", "writing", "device", "reset", "lock", "key", "commit", "held"] (spIF K C CF cK cF) := by
  refine gdD (k := 4) F sc_Field___init__ (fun vs H Q E h => ?_) (fun cdv A outer s H vs Q E rm gd h => ?_)
  · obtain ⟨x, dx, n, lo, sz, r, wr, d, rs, lk, ky, cm, hd, rfl, _⟩ := h
    rfl
  · obtain ⟨x, dx, n, lo, sz, r, wr, d, rs, lk, ky, cm, hd, rfl, hx, ⟨on, ol, os, oR, ow, od, ors, olk, oky, ocm, ohd⟩, q1, q2, q⟩ := h
    have tk := takes_cx (P := P) (w := w) (K := K) (mg := mg) (base := base) (N := ["self", "name", "low", "size", "reading", "writing", "device", "reset", "lock", "key", "commit", "held", "reason", "partner"]) (qual := "Field.__init__") (sc := defScope s_Field___init__) (f := f) (cd := cdv) (A := A) (outer := outer) (s := s) (H := H) (E := E)
    have cl := TF.cl
    have er : ∀ {σ : L2.St} {H5 : Hp} (z : Str), Kp x H H5 → σ[1]? = some (some n) → z.length ≤ 100 → dueF n lo sz r wr d rs lk ky cm hd = some (.inl z) →
        tMkO cF (spErr2 cF "name" "reason") [] (tCons (tVar 1) (tCons (tC (.str z)) tNil)) σ H5 (fun cls d H' => E cls d H') := fun {σ H5} z kp hv hz due => by
      refine mk2 mono_vc ?_
      refine w_cons (w_var hv (w_cons (w_c (w_nil ⟨n, z, rfl, hz, fun dd H6 nd hd keep => q1 z due dd H6 (fun b o e nb => ?_) hd⟩))))
      have e5 := kp b o e nb
      exact (keep b (ne_of_none e5 nd)).trans e5
    have er2 : ∀ {σ : L2.St} {H5 : Hp} (z : Str), Kp x H H5 → σ[1]? = some (some n) → σ[12]? = some (some (.str z)) → z.length ≤ 100 → dueF n lo sz r wr d rs lk ky cm hd = some (.inl z) →
        tMkO cF (spErr2 cF "name" "reason") [] (tCons (tVar 1) (tCons (tVar 12) tNil)) σ H5 (fun cls d H' => E cls d H') := fun {σ H5} z kp hv hv2 hz due => by
      refine mk2 mono_vv ?_
      refine w_cons (w_var hv (w_cons (w_var hv2 (w_nil ⟨n, z, rfl, hz, fun dd H6 nd hd keep => q1 z due dd H6 (fun b o e nb => ?_) hd⟩))))
      have e5 := kp b o e nb
      exact (keep b (ne_of_none e5 nd)).trans e5
    refine ⟨_, (pss_cons (ps_if (pt_not (pt_val (pc cis_name rm (by decide) gd rfl (pa_cons (pv 1) pa_nil))))
      (pss_one (ps_raise rfl tk (pmk_own OF iF tF GF (rm.mono (by decide)) gd bF .nil pass_no rfl gF (pa_cons (pv 1) (pa_cons pe_str pa_nil)))))
      pss_nil)
    (pss_cons (ps_if (pt_not (pt_val (pc cis_place rm (by decide) gd rfl (pa_cons (pv 2) (pa_cons (pv 3) pa_nil)))))
      (pss_one (ps_raise rfl tk (pmk_own OF iF tF GF (rm.mono (by decide)) gd bF .nil pass_no rfl gF (pa_cons (pv 1) (pa_cons pe_str pa_nil)))))
      pss_nil)
    (pss_cons (ps_fld (pv 0) (pe_gmake MK FIK (rm.mono (by decide)) gd rfl T.g_Kind bIK .nil pass_cx (pa_cons (pv 4) (pa_cons (pv 5) (pa_cons (pv 6) pa_nil)))) rfl)
    (pss_cons (ps_if (pt_not (pt_val (pc cis_reset rm (by decide) gd rfl (pa_cons (pv 7) (pa_cons (pv 3) (pa_cons (pv 6) pa_nil))))))
      (pss_one (ps_raise rfl tk (pmk_own OF iF tF GF (rm.mono (by decide)) gd bF .nil pass_no rfl gF (pa_cons (pv 1) (pa_cons pe_str pa_nil)))))
      pss_nil)
    (pss_cons (ps_for own_cx rfl (pi_tup (pe_tup (pa_cons (pe_tup (pa_cons pe_str (pa_cons (pv 8) pa_nil))) (pa_cons (pe_tup (pa_cons pe_str (pa_cons (pv 9) pa_nil))) (pa_cons (pe_tup (pa_cons pe_str (pa_cons (pv 10) pa_nil))) (pa_cons (pe_tup (pa_cons pe_str (pa_cons (pv 11) pa_nil))) pa_nil)))))) (pg_tup rfl (pgs_cons (pg_name (i := 12) sc_Field___init__.nd rfl (Or.inl rfl)) (pgs_cons (pg_name (i := 13) sc_Field___init__.nd rfl (Or.inl rfl)) pgs_nil)))
      (pss_one (ps_if (PW.pt (pw_and (pt_cmpR op_notN (pv 13) pe_non (nomark _)) (pw_and1 (pt_not (pt_val (pc cis_name rm (by decide) gd rfl (pa_cons (pv 13) pa_nil)))))))
        (pss_one (ps_raise rfl tk (pmk_own OF iF tF GF (rm.mono (by decide)) gd bF .nil pass_no rfl gF (pa_cons (pv 1) (pa_cons (pv 12) pa_nil)))))
        pss_nil)))
    (pss_cons (ps_fld (pv 0) (pv 1) rfl)
    (pss_cons (ps_fld (pv 0) (pv 2) rfl)
    (pss_cons (ps_fld (pv 0) (pv 3) rfl)
    (pss_cons (ps_fld (pv 0) (pv 4) rfl)
    (pss_cons (ps_fld (pv 0) (pv 5) rfl)
    (pss_cons (ps_fld (pv 0) (pv 6) rfl)
    (pss_cons (ps_fld (pv 0) (pv 7) rfl)
    (pss_cons (ps_fld (pv 0) (pv 8) rfl)
    (pss_cons (ps_fld (pv 0) (pv 9) rfl)
    (pss_cons (ps_fld (pv 0) (pv 10) rfl)
    (pss_cons (ps_fld (pv 0) (pv 11) rfl)
    (pss_mid (ps_if (PW.pt (pw_and (pt_cmpR op_notN (pv 11) pe_non (nomark _)) (pw_and1 (pt_not (pt_val (pm0 mMH TF.cl rm (by decide) gd (pv 0)))))))
      (pss_one (ps_raise rfl tk (pmk_own OF iF tF GF (rm.mono (by decide)) gd bF .nil pass_no rfl gF (pa_cons (pv 1) (pa_cons pe_str pa_nil)))))
      pss_nil)
    (pss_one (ps_if (PW.pt (pw_and (pt_cmpR op_notN (pv 10) pe_non (nomark _)) (pw_and1 (pt_cmpR (op_neO FEQ (rm.mono (by decide)) gd eqI eqF neI T.isM bEQ pass0) (pe_fld (pv 0) rfl) (pe_gmake MK FIK (rm.mono (by decide)) gd rfl T.g_Kind bIK .nil pass_cx (pa_cons pe_str (pa_cons pe_str (pa_cons pe_str pa_nil)))) (nomark _)))))
      (pss_one (ps_raise rfl tk (pmk_own OF iF tF GF (rm.mono (by decide)) gd bF .nil pass_no rfl gF (pa_cons (pv 1) (pa_cons pe_str pa_nil)))))
      pss_nil))))))))))))))))))), ?_⟩
    walk_at "go"
    refine ⟨n, rfl, on, fun H1 s1 => ⟨_, rfl, ?_⟩⟩
    cases hn : isNm n with
    | false =>
      refine iteT ?_
      have due : dueF n lo sz r wr d rs lk ky cm hd = some (.inl "name") := by unfold dueF; rw [if_pos hn]
      exact er "name" (fun b o e _ => s1 b o e) rfl (by decide +kernel) due
    | true =>
    refine iteF ?_
    walk_at "go"
    refine ⟨lo, sz, rfl, ol.sm s1, os.sm s1, _, rfl, ?_⟩
    cases hp : isPl lo sz with
    | false =>
      refine iteT ?_
      have due : dueF n lo sz r wr d rs lk ky cm hd = some (.inl "place") := by unfold dueF; rw [if_neg (by rw [hn]; decide), if_pos hp]
      exact er "place" (fun b o e _ => s1 b o e) rfl (by decide +kernel) due
    | true =>
    refine iteF ?_
    walk_at "go"
    obtain ⟨lw, si, rfl, rfl, si1, si16⟩ : ∃ lw si, lo = .int lw ∧ sz = .int si ∧ 1 ≤ si ∧ si ≤ 16 := by
      cases lo <;> first | cases hp | skip
      cases sz <;> first | cases hp | skip
      have hp := of_decide_eq_true hp
      exact ⟨_, _, rfl, rfl, hp.2.2.1, hp.2.2.2.1⟩
    refine make fun k dk H2 n2 h2 s2 => ?_
    have s02 := s1.trans s2
    have xk : x ≠ k := fun e => by
      rw [← e, s1 _ _ hx] at n2
      cases n2
    refine ⟨k, dk, r, wr, d, rfl, h2, oR.sm s02, ow.sm s02, od.sm s02, fun b1 dd H' s' hd' => q2 r (by simp [dueF, hn, hp, b1]) dd H' (fun b o e _ => s' b o (s02 b o e)) hd', fun b1 b2 dd H' s' hd' => q2 wr (by simp [dueF, hn, hp, b1, b2]) dd H' (fun b o e _ => s' b o (s02 b o e)) hd', fun b1 b2 b3 dd H' s' hd' => q2 d (by simp [dueF, hn, hp, b1, b2, b3]) dd H' (fun b o e _ => s' b o (s02 b o e)) hd', fun b1 b2 b3 => ?_⟩
    obtain ⟨ra, _, rfl⟩ := badW_str b1
    obtain ⟨wa, _, rfl⟩ := badW_str b2
    obtain ⟨da, _, rfl⟩ := badW_str b3
    refine ⟨ra, wa, da, rfl, rfl, rfl, fun H3 hk3 e3 => ⟨rfl, ?_⟩⟩
    walk_at "go"
    have hx3 := e3 _ _ (s02 _ _ hx) xk
    refine sfld hx3 cl TF.n1 (by show 0 < 1000; decide) rfl fun H4 h4 e4 => ?_
    have kp4 : Kp x H H4 := fun b o e nb => by
      have hb : b ≠ k := fun z => by
        have := s1 _ _ e
        rw [z, n2] at this
        cases this
      rw [e4 b nb]
      exact e3 _ _ (s02 _ _ e) hb
    have kpI : ∀ {H' : Hp}, Kp x H H' → SamI H H' := fun {H'} kp b o e ni => kp b o e fun z => by
      rw [z, hx] at e
      cases e
      exact ni _ _ _ rfl
    have hk4 : KindAt C H4 k ra wa da := by
      obtain ⟨dk', st, z⟩ := hk3
      exact ⟨dk', st, (e4 k (Ne.symm xk)).trans z⟩
    walk_at "go"
    refine ⟨rs, si, da, rfl, ors.si (kpI kp4), si1, si16, _, rfl, ?_⟩
    cases hr : isRs rs si da with
    | false =>
      refine iteT ?_
      exact er "reset" kp4 rfl (by decide +kernel) (by simp [dueF, hn, hp, b1, b2, b3, rsV, hr])
    | true =>
    refine iteF ?_
    walk_at "go"
    refine new (by show 2 ≤ sizeLine; decide) fun t1 H5 n5 h5 s5 => ?_
    walk_at "go"
    refine new (by show 2 ≤ sizeLine; decide) fun t2 H6 n6 h6 s6 => ?_
    walk_at "go"
    refine new (by show 2 ≤ sizeLine; decide) fun t3 H7 n7 h7 s7 => ?_
    walk_at "go"
    refine new (by show 2 ≤ sizeLine; decide) fun t4 H8 n8 h8 s8 => ?_
    walk_at "go"
    refine new (by show 4 ≤ sizeLine; decide) fun t5 H9 n9 h9 s9 => ?_
    have s49 := s5.trans (s6.trans (s7.trans (s8.trans s9)))
    have kp9 : Kp x H H9 := fun b o e nb => s49 _ _ (kp4 _ _ e nb)
    refine over_t (SqT.of h9) (for_tup (xs := [.ref t1, .ref t2, .ref t3, .ref t4]) (fun i σ H' => (∃ v12 v13, σ = [some (.ref x), some n, some (.int lw), some (.int si), some (.str ra), some (.str wa), some (.str da), some rs, some lk, some ky, some cm, some hd, v12, v13]) ∧ Same H9 H' ∧ (1 ≤ i → bdP lk = false) ∧ (2 ≤ i → bdP ky = false) ∧ (3 ≤ i → bdP cm = false) ∧ (4 ≤ i → bdP hd = false)) ⟨⟨none, none, rfl⟩, Same.refl _, nofun, nofun, nofun, nofun⟩ (fun i σ H' _ ⟨_, z, _⟩ => SqT.of (z _ _ h9)) ?_ ?_)
    · rintro i y σ H' hi ⟨⟨v12, v13, rfl⟩, z, p1, p2, p3, p4⟩
      have kpz : Kp x H H' := fun b o e nb => z _ _ (kp9 _ _ e nb)
      match i, hi with
      | 0, hi =>
        cases hi
        refine ⟨t1, [.str "lock", lk], rfl, SqT.of (z _ _ (s9 _ _ (s8 _ _ (s7 _ _ (s6 _ _ h5))))), rfl, _, _, rfl, _, _, rfl, rfl, ?_⟩
        walk_at "go"
        refine ⟨rfl, ?_⟩
        by_cases hv : lk = .non
        · rw [decide_eq_true hv]
          refine ⟨false, rfl, iteF ?_⟩
          exact ⟨⟨_, _, rfl⟩, z, fun _ => by simp [bdP, hv], fun y => absurd y (by decide), fun y => absurd y (by decide), fun y => absurd y (by decide)⟩
        · rw [decide_eq_false hv]
          refine ⟨true, rfl, iteT ?_⟩
          walk_at "go"
          refine ⟨lk, rfl, olk.si (kpI kpz), fun H2 s2 => ⟨_, rfl, ?_⟩⟩
          cases hm : isNm lk with
          | false =>
            refine iteT ?_
            have hb : bdP lk = true := by simp [bdP, hv, hm]
            exact er2 "lock" (fun b o e nb => s2 _ _ (kpz b o e nb)) rfl rfl (by decide +kernel) (by simp [dueF, hn, hp, b1, b2, b3, rsV, hr, hb])
          | true =>
            refine iteF ?_
            exact ⟨⟨_, _, rfl⟩, z.trans s2, fun _ => by simp [bdP, hm], fun y => absurd y (by decide), fun y => absurd y (by decide), fun y => absurd y (by decide)⟩
      | 1, hi =>
        cases hi
        refine ⟨t2, [.str "key", ky], rfl, SqT.of (z _ _ (s9 _ _ (s8 _ _ (s7 _ _ h6)))), rfl, _, _, rfl, _, _, rfl, rfl, ?_⟩
        walk_at "go"
        refine ⟨rfl, ?_⟩
        by_cases hv : ky = .non
        · rw [decide_eq_true hv]
          refine ⟨false, rfl, iteF ?_⟩
          exact ⟨⟨_, _, rfl⟩, z, fun _ => p1 (by decide), fun _ => by simp [bdP, hv], fun y => absurd y (by decide), fun y => absurd y (by decide)⟩
        · rw [decide_eq_false hv]
          refine ⟨true, rfl, iteT ?_⟩
          walk_at "go"
          refine ⟨ky, rfl, oky.si (kpI kpz), fun H2 s2 => ⟨_, rfl, ?_⟩⟩
          cases hm : isNm ky with
          | false =>
            refine iteT ?_
            have hb : bdP ky = true := by simp [bdP, hv, hm]
            exact er2 "key" (fun b o e nb => s2 _ _ (kpz b o e nb)) rfl rfl (by decide +kernel) (by simp [dueF, hn, hp, b1, b2, b3, rsV, hr, hb, p1 (by decide)])
          | true =>
            refine iteF ?_
            exact ⟨⟨_, _, rfl⟩, z.trans s2, fun _ => p1 (by decide), fun _ => by simp [bdP, hm], fun y => absurd y (by decide), fun y => absurd y (by decide)⟩
      | 2, hi =>
        cases hi
        refine ⟨t3, [.str "commit", cm], rfl, SqT.of (z _ _ (s9 _ _ (s8 _ _ h7))), rfl, _, _, rfl, _, _, rfl, rfl, ?_⟩
        walk_at "go"
        refine ⟨rfl, ?_⟩
        by_cases hv : cm = .non
        · rw [decide_eq_true hv]
          refine ⟨false, rfl, iteF ?_⟩
          exact ⟨⟨_, _, rfl⟩, z, fun _ => p1 (by decide), fun _ => p2 (by decide), fun _ => by simp [bdP, hv], fun y => absurd y (by decide)⟩
        · rw [decide_eq_false hv]
          refine ⟨true, rfl, iteT ?_⟩
          walk_at "go"
          refine ⟨cm, rfl, ocm.si (kpI kpz), fun H2 s2 => ⟨_, rfl, ?_⟩⟩
          cases hm : isNm cm with
          | false =>
            refine iteT ?_
            have hb : bdP cm = true := by simp [bdP, hv, hm]
            exact er2 "commit" (fun b o e nb => s2 _ _ (kpz b o e nb)) rfl rfl (by decide +kernel) (by simp [dueF, hn, hp, b1, b2, b3, rsV, hr, hb, p1 (by decide), p2 (by decide)])
          | true =>
            refine iteF ?_
            exact ⟨⟨_, _, rfl⟩, z.trans s2, fun _ => p1 (by decide), fun _ => p2 (by decide), fun _ => by simp [bdP, hm], fun y => absurd y (by decide)⟩
      | 3, hi =>
        cases hi
        refine ⟨t4, [.str "held", hd], rfl, SqT.of (z _ _ (s9 _ _ h8)), rfl, _, _, rfl, _, _, rfl, rfl, ?_⟩
        walk_at "go"
        refine ⟨rfl, ?_⟩
        by_cases hv : hd = .non
        · rw [decide_eq_true hv]
          refine ⟨false, rfl, iteF ?_⟩
          exact ⟨⟨_, _, rfl⟩, z, fun _ => p1 (by decide), fun _ => p2 (by decide), fun _ => p3 (by decide), fun _ => by simp [bdP, hv]⟩
        · rw [decide_eq_false hv]
          refine ⟨true, rfl, iteT ?_⟩
          walk_at "go"
          refine ⟨hd, rfl, ohd.si (kpI kpz), fun H2 s2 => ⟨_, rfl, ?_⟩⟩
          cases hm : isNm hd with
          | false =>
            refine iteT ?_
            have hb : bdP hd = true := by simp [bdP, hv, hm]
            exact er2 "held" (fun b o e nb => s2 _ _ (kpz b o e nb)) rfl rfl (by decide +kernel) (by simp [dueF, hn, hp, b1, b2, b3, rsV, hr, hb, p1 (by decide), p2 (by decide), p3 (by decide)])
          | true =>
            refine iteF ?_
            exact ⟨⟨_, _, rfl⟩, z.trans s2, fun _ => p1 (by decide), fun _ => p2 (by decide), fun _ => p3 (by decide), fun _ => by simp [bdP, hm]⟩
    · rintro σ H10 ⟨⟨v12, v13, rfl⟩, z, p1, p2, p3, p4⟩
      have p1 := p1 (show 1 ≤ 4 by decide)
      have p2 := p2 (show 2 ≤ 4 by decide)
      have p3 := p3 (show 3 ≤ 4 by decide)
      have p4 := p4 (show 4 ≤ 4 by decide)
      have kp10 : Kp x H H10 := fun b o e nb => z _ _ (kp9 _ _ e nb)
      have hk10 : KindAt C H10 k ra wa da := by
        obtain ⟨dk', st, y⟩ := hk4
        exact ⟨dk', st, z _ _ (s49 _ _ y)⟩
      have hf0 := z _ _ (s49 _ _ h4)
      walk_at "go"
      refine sfld hf0 cl TF.n2 (by show 1 < 1000; decide) rfl fun F1 hf1 ef1 => ?_
      walk_at "go"
      refine sfld hf1 cl TF.n3 (by show 2 < 1000; decide) rfl fun F2 hf2 ef2 => ?_
      walk_at "go"
      refine sfld hf2 cl TF.n4 (by show 3 < 1000; decide) rfl fun F3 hf3 ef3 => ?_
      walk_at "go"
      refine sfld hf3 cl TF.n5 (by show 4 < 1000; decide) rfl fun F4 hf4 ef4 => ?_
      walk_at "go"
      refine sfld hf4 cl TF.n6 (by show 5 < 1000; decide) rfl fun F5 hf5 ef5 => ?_
      walk_at "go"
      refine sfld hf5 cl TF.n7 (by show 6 < 1000; decide) rfl fun F6 hf6 ef6 => ?_
      walk_at "go"
      refine sfld hf6 cl TF.n8 (by show 7 < 1000; decide) rfl fun F7 hf7 ef7 => ?_
      walk_at "go"
      refine sfld hf7 cl TF.n9 (by show 8 < 1000; decide) rfl fun F8 hf8 ef8 => ?_
      walk_at "go"
      refine sfld hf8 cl TF.n10 (by show 9 < 1000; decide) rfl fun F9 hf9 ef9 => ?_
      walk_at "go"
      refine sfld hf9 cl TF.n11 (by show 10 < 1000; decide) rfl fun F10 hf10 ef10 => ?_
      walk_at "go"
      refine sfld hf10 cl TF.n12 (by show 11 < 1000; decide) rfl fun F11 hf11 ef11 => ?_
      walk_at "go"
      have eF : ∀ b, b ≠ x → F11 b = H10 b := fun b nb => by rw [ef11 b nb, ef10 b nb, ef9 b nb, ef8 b nb, ef7 b nb, ef6 b nb, ef5 b nb, ef4 b nb, ef3 b nb, ef2 b nb, ef1 b nb]
      have kpF : Kp x H F11 := fun b o e nb => (eF b nb).trans (kp10 b o e nb)
      have hkF : KindAt C F11 k ra wa da := by
        obtain ⟨dk', st, y⟩ := hk10
        exact ⟨dk', st, (eF k (Ne.symm xk)).trans y⟩
      refine w_mid (fun σ' H' => σ' = [some (.ref x), some n, some (.int lw), some (.int si), some (.str ra), some (.str wa), some (.str da), some rs, some lk, some ky, some cm, some hd, v12, v13] ∧ Same F11 H' ∧ (!decide (hd = .non) && !mbh lk ky cm ra wa da) = false) ?_ ?_
      · walk_at "go"
        refine ⟨rfl, ?_⟩
        by_cases hv : hd = .non
        · rw [decide_eq_true hv]
          refine ⟨false, rfl, iteF ?_⟩
          exact ⟨rfl, Same.refl _, rfl⟩
        · rw [decide_eq_false hv]
          refine ⟨true, rfl, iteT ?_⟩
          walk_at "go"
          refine ⟨x, dx, k, n, .int lw, .int si, rs, lk, ky, cm, hd, ra, wa, da, rfl, hf11, fun H2 s2 => ⟨_, rfl, ?_⟩⟩
          cases hm : mbh lk ky cm ra wa da with
          | false =>
            refine iteT ?_
            exact er "held" (fun b o e nb => s2 _ _ (kpF b o e nb)) rfl (by decide +kernel) (by simp [dueF, hn, hp, b1, b2, b3, rsV, hr, p1, p2, p3, p4, mbV, hv, hm])
          | true =>
            refine iteF ?_
            exact ⟨rfl, s2, rfl⟩
      · rintro σ' H' ⟨rfl, sF, pm⟩
        have n1 := TF.n1
        have due := due_end (n := n) hn hp b1 b2 b3 (show rsV rs (.int si) (.str da) = true from hr) p1 p2 p3 p4
        rw [show (!decide (hd = .non) && !mbV lk ky cm (.str ra) (.str wa) (.str da)) = false from pm, if_neg (by decide)] at due
        have hxF := sF _ _ hf11
        have kpz : Kp x H H' := fun b o e nb => sF _ _ (kpF b o e nb)
        have hkz : KindAt C H' k ra wa da := by
          obtain ⟨dk', st, y⟩ := hkF
          exact ⟨dk', st, sF _ _ y⟩
        walk_at "go"
        refine ⟨rfl, ?_⟩
        by_cases hv : cm = .non
        · rw [decide_eq_true hv]
          refine ⟨false, rfl, iteF ?_⟩
          rw [decide_eq_true hv, show (!true && !plainV (.str ra) (.str wa) (.str da)) = false from rfl, if_neg (by decide)] at due
          exact q due k ra wa da H' rfl rfl rfl hxF hkz kpz
        · rw [decide_eq_false hv]
          refine ⟨true, rfl, iteT ?_⟩
          walk_at "go"
          refine make fun k2 dk2 H2 n2' h2' s2' => ?_
          refine ⟨k2, dk2, .str "keep", .str "store", .str "still", rfl, h2', od_str (by decide +kernel) (by decide +kernel), od_str (by decide +kernel) (by decide +kernel), od_str (by decide +kernel) (by decide +kernel), fun b => absurd b (by decide +kernel), fun _ b => absurd b (by decide +kernel), fun _ _ b => absurd b (by decide +kernel), fun _ _ _ => ⟨"keep", "store", "still", rfl, rfl, rfl, fun H3 hk3' e3' => ⟨rfl, ?_⟩⟩⟩
          have s3 : Same H' H3 := fun b o e => e3' b o (s2' b o e) (ne_of_none e n2')
          have hkA : KindAt C H3 k ra wa da := by
            obtain ⟨dk', st, y⟩ := hkz
            exact ⟨dk', st, s3 _ _ y⟩
          obtain ⟨dk3, st3, y3⟩ := id hkA
          refine ⟨k, dk3, _, .ref C, rfl, y3, ty_kind T hk3', nfC, .inl ⟨k, k2, ra, wa, da, "keep", "store", "still", rfl, hkA, hk3', _, rfl, ?_⟩⟩
          have ep : plainV (.str ra) (.str wa) (.str da) = (decide (ra = "keep") && decide (wa = "store") && decide (da = "still")) := by
            unfold plainV
            rw [dS, dS, dS]
          rw [ep, decide_eq_false hv] at due
          cases hm : (decide (ra = ("keep" : Str)) && decide (wa = ("store" : Str)) && decide (da = ("still" : Str))) with
          | true =>
            rw [hm, show (!false && !true) = false from rfl, if_neg (by decide)] at due
            refine ⟨false, rfl, iteF ?_⟩
            have kp3 : Kp x H H3 := fun b o e nb => s3 _ _ (kpz b o e nb)
            exact q due k ra wa da H3 rfl rfl rfl (s3 _ _ hxF) hkA kp3
          | false =>
            rw [hm, show (!false && !false) = true from rfl, if_pos rfl] at due
            refine ⟨true, rfl, iteT ?_⟩
            exact er "commit" (fun b o e nb => s3 _ _ (kpz b o e nb)) rfl (by decide +kernel) due
end
end Law

set_option Elab.async false
set_option linter.all false
set_option maxRecDepth 100000
set_option maxHeartbeats 4000000
namespace Law
open PySem PySem.Spec PySem.Calls PyProof.Rows L2 KG LamX
local macro_rules | `(tactic| walk_at "1") => `(tactic| first
  | (with_reducible refine w_var rfl ?_) | (with_reducible refine w_c ?_) | (with_reducible refine w_seq ?_) | (with_reducible refine w_asg ?_) | (with_reducible refine w_gname ?_) | (with_reducible refine w_op ?_) | (with_reducible refine w_un ?_)
  | (with_reducible refine w_add ?_) | (with_reducible refine w_sub ?_) | ((with_reducible refine' w_mod ?mo ?_); (case mo => first | assumption | decide | omega)) | (with_reducible refine w_and ?_) | (with_reducible refine w_or ?_) | (with_reducible refine w_xor ?_)
  | (with_reducible refine w_gt ?_) | (with_reducible refine w_lt ?_) | (with_reducible refine w_ge ?_) | (with_reducible refine w_le ?_) | ((with_reducible refine' w_eq ?sc ?_); (case sc => rfl)) | ((with_reducible refine' w_ne ?sc ?_); (case sc => rfl))
  | (with_reducible refine w_ret ?_) | (with_reducible refine w_next ?_) | (with_reducible refine w_ifs ?_) | (with_reducible refine w_ifx ?_) | (with_reducible refine w_test ?_) | (with_reducible refine w_tB ?_) | (with_reducible refine w_bl ?_)
  | ((with_reducible refine' w_ixL ?ixh ?ixa ?_); (case ixh => first | exact SqL.of (by assumption)); (case ixa => first | rfl | skip)) | ((with_reducible refine' w_ixT ?ixh ?ixa ?_); (case ixh => first | exact SqT.of (by assumption)); (case ixa => first | rfl | skip))
  | ((with_reducible refine' w_fld ?_)) | ((with_reducible refine' fld ?fh ?fc ?fn ?fl ?_); (case fh => assumption); (case fc => assumption); (case fn => assumption); (case fl => rfl)) | (with_reducible refine w_sfld ?_)
  | (with_reducible refine Or.inl ⟨_, rfl, ?_⟩) | (with_reducible refine w_gsub ?_) | (with_reducible refine w_andV ?_) | (with_reducible refine w_orV ?_)
  | (with_reducible refine w_nil ?_) | (with_reducible refine w_cons ?_) | (with_reducible refine w_tup ?_) | (with_reducible refine w_lst ?_) | (with_reducible refine w_and2 ?_) | (with_reducible refine w_or2 ?_) | (with_reducible refine w_not ?_) | (with_reducible refine w_cb ?_) | (with_reducible refine w_call ?_) | (with_reducible refine w_par ?_) | (with_reducible refine w_pnil ?_) | (with_reducible refine w_pcons ?_) | (with_reducible refine w_dput ?_) | (with_reducible refine w_dget ?_) | (with_reducible refine w_for ?_) | (with_reducible refine w_itup ?_) | (with_reducible refine w_ilist ?_) | (with_reducible refine w_irng ?_) | (with_reducible refine w_meth ?_) | (with_reducible refine w_make ?_) | (with_reducible refine w_makeK ?_) | (with_reducible refine w_methK ?_) | ((with_reducible refine' mth ?mh ?ml ?_); (case mh => assumption); (case ml => rfl)) | (with_reducible refine w_drop ?_))
local macro_rules | `(tactic| walk_at "go") => `(tactic| ((repeat (walk_at "1")); try dsimp only))
local macro_rules | `(tactic| walk_at "1") => `(tactic| first
  | (with_reducible refine w_notV ?_) | (with_reducible refine w_callK ?_) | (with_reducible refine w_lc ?_) | (with_reducible refine w_chain ?_) | (with_reducible refine w_neg ?_) | ((with_reducible refine' w_shr ?mo ?_); (case mo => first | assumption | omega)))
def FieldAt (C CF : Addr) (H : Hp) (f : Addr) (n lo sz : V) (r w d : Str) (rs lk ky cm hd : V) : Prop := ∃ dx k, H f = some (.ins CF dx (flds k n lo sz (.str r) (.str w) (.str d) rs lk ky cm hd)) ∧ KindAt C H k r w d
/-- none, or a text -/
def ON (v : V) : Prop := v = .non ∨ ∃ z, v = .str z
def eqFld (n lo sz : V) (r w d : Str) (rs lk ky cm hd n' lo' sz' : V) (r' w' d' : Str) (rs' lk' ky' cm' hd' : V) : Bool :=
  decide (n = n') && (decide (lo = lo') && (decide (sz = sz') && ((decide (r = r') && decide (w = w') && decide (d = d')) && (decide (rs = rs') && (decide (lk = lk') && (decide (ky = ky') && (decide (cm = cm') && decide (hd = hd'))))))))
def spFEq (K : PySem.W.Frag) (C CF : Addr) : Sp := fun vs H Q _ => (∃ (f g : Addr) (n n' : Str) (lo sz rs lo' sz' rs' : Int) (r w d r' w' d' : Str) (lk ky cm hd lk' ky' cm' hd' : V), vs = [.ref f, .ref g] ∧ FieldAt C CF H f (.str n) (.int lo) (.int sz) r w d (.int rs) lk ky cm hd ∧ FieldAt C CF H g (.str n') (.int lo') (.int sz') r' w' d' (.int rs') lk' ky' cm' hd' ∧
    (ON lk ∧ ON ky ∧ ON cm ∧ ON hd ∧ ON lk' ∧ ON ky' ∧ ON cm' ∧ ON hd') ∧ Q (.bl (eqFld (.str n) (.int lo) (.int sz) r w d (.int rs) lk ky cm hd (.str n') (.int lo') (.int sz') r' w' d' (.int rs') lk' ky' cm' hd')) H) ∨
  (∃ (f : Addr) (y : V) (t : Value), vs = [.ref f, y] ∧ TyX K H y t ∧ PySem.W.kitOne K t (.ref CF) = some false ∧ Q (.bl false) H)
theorem on_scal {a b : V} (ha : ON a) (hb : ON b) : scal a b = true := by
  rcases ha with rfl | ⟨x, rfl⟩ <;> rcases hb with rfl | ⟨y, rfl⟩ <;> rfl
section
variable {P : Program} {w : World} {K : PySem.W.Frag} {mg : Str → Option Value} {base : Heap} {C CF fEQ : Addr} {mc : Value}
theorem ok_FEq {f : Addr} {fdEQ : FuncData} (D : MetAt K CF "__eq__" "Field.__eq__" s_Field___eq__ ["self", "other"] f) (B : B1 mg) (T : K8 K mg C mc) (TF : F19 K mg CF)
    (isCF : PySem.W.findIn K (.ref CF) "__class__" = some (some (.builtin "object.__class__"))) (isMF : PySem.W.mroIn K CF (.type "object") = some true)
    (FEQ : Gd P w K mg base CX0 1 fEQ fdEQ ["self", "other"] (spEQ K C)) (bEQ : Binds K fdEQ ["self", "other"] []) (eqI : PySem.W.findIn K (.ref C) "__eq__" = some (some (.ref fEQ))) (eqF : PySem.W.isFn K (.ref fEQ) = true) (nfC : PySem.W.notFirst K C (.ref C) = true) :
    ∃ fd, Meth K CF "__eq__" f ∧ Fun K "__eq__" "Field.__eq__" s_Field___eq__ f fd ∧ Binds K fd ["self", "other"] [] ∧ Gd P w K mg base CX0 3 f fd ["self", "other"] (spFEq K C CF) := by
  refine D.gd (k := 2) sc_Field___eq__ (fun vs H Q E h => ?_) (fun cdv A outer s H vs Q E rm gd h => ?_)
  · rcases h with ⟨f, g, n, n', lo, sz, rs, lo', sz', rs', r, w, d, r', w', d', lk, ky, cm, hd, lk', ky', cm', hd', rfl, _⟩ | ⟨k, y, t, rfl, _⟩ <;> rfl
  · have cl := TF.cl
    have n1 := TF.n1
    have n2 := TF.n2
    have n3 := TF.n3
    have n4 := TF.n4
    have n8 := TF.n8
    have n9 := TF.n9
    have n10 := TF.n10
    have n11 := TF.n11
    have n12 := TF.n12
    rcases h with ⟨f, g, n, n', lo, sz, rs, lo', sz', rs', r, wr, d, r', w', d', lk, ky, cm, hd, lk', ky', cm', hd', rfl, Hf, Hg, ons, q⟩ | ⟨k, y, t, rfl, ty, kt, q⟩
    rotate_left
    · refine ⟨_, (pss_one (ps_ret (pe_and (pe_callB call_isi (by rfl) B.g_isinstance (by decide +kernel) (pa_cons (pv 1) (pa_cons (pe_glob (v := .ref CF) rfl TF.g rfl) pa_nil))) (pe_and (pe_cmpR op_eq (pe_fld (pv 0) rfl) (pe_fld (pv 1) rfl) (nomark _)) (pe_and (pe_cmpR op_eq (pe_fld (pv 0) rfl) (pe_fld (pv 1) rfl) (nomark _)) (pe_and (pe_cmpR op_eq (pe_fld (pv 0) rfl) (pe_fld (pv 1) rfl) (nomark _)) (pe_and (pe_cmpR (op_eqO FEQ (rm.mono (by decide)) gd eqI eqF bEQ pass0) (pe_fld (pv 0) rfl) (pe_fld (pv 1) rfl) (nomark _)) (pe_and (pe_cmpR op_eq (pe_fld (pv 0) rfl) (pe_fld (pv 1) rfl) (nomark _)) (pe_and (pe_cmpR op_eq (pe_fld (pv 0) rfl) (pe_fld (pv 1) rfl) (nomark _)) (pe_and (pe_cmpR op_eq (pe_fld (pv 0) rfl) (pe_fld (pv 1) rfl) (nomark _)) (pe_and (pe_cmpR op_eq (pe_fld (pv 0) rfl) (pe_fld (pv 1) rfl) (nomark _)) (pe_one (pe_cmpR op_eq (pe_fld (pv 0) rfl) (pe_fld (pv 1) rfl) (nomark _)))))))))))))), ?_⟩
      walk_at "go"
      refine ⟨y, .ref CF, t, .ref CF, false, rfl, .own CF, ty, kt, false, rfl, ?_⟩
      exact iteF q
    · obtain ⟨dx, k, hf, hk⟩ := Hf
      obtain ⟨dy, j, hg, hj⟩ := Hg
      refine ⟨_, (pss_one (ps_ret (pe_and (pe_callB call_isi (by rfl) B.g_isinstance (by decide +kernel) (pa_cons (pv 1) (pa_cons (pe_glob (v := .ref CF) rfl TF.g rfl) pa_nil))) (pe_and (pe_cmpR op_eq (pe_fld (pv 0) rfl) (pe_fld (pv 1) rfl) (nomark _)) (pe_and (pe_cmpR op_eq (pe_fld (pv 0) rfl) (pe_fld (pv 1) rfl) (nomark _)) (pe_and (pe_cmpR op_eq (pe_fld (pv 0) rfl) (pe_fld (pv 1) rfl) (nomark _)) (pe_and (pe_cmpR (op_eqO FEQ (rm.mono (by decide)) gd eqI eqF bEQ pass0) (pe_fld (pv 0) rfl) (pe_fld (pv 1) rfl) (nomark _)) (pe_and (pe_cmpR op_eq (pe_fld (pv 0) rfl) (pe_fld (pv 1) rfl) (nomark _)) (pe_and (pe_cmpR op_eq (pe_fld (pv 0) rfl) (pe_fld (pv 1) rfl) (nomark _)) (pe_and (pe_cmpR op_eq (pe_fld (pv 0) rfl) (pe_fld (pv 1) rfl) (nomark _)) (pe_and (pe_cmpR op_eq (pe_fld (pv 0) rfl) (pe_fld (pv 1) rfl) (nomark _)) (pe_one (pe_cmpR op_eq (pe_fld (pv 0) rfl) (pe_fld (pv 1) rfl) (nomark _)))))))))))))), ?_⟩
      walk_at "go"
      refine ⟨.ref g, .ref CF, .ref CF, .ref CF, true, rfl, .own CF, .base (.ins hg cl isCF T.isG T.isT isMF), if_pos (beq_self_eq_true _), true, rfl, ?_⟩
      refine iteT ?_
      unfold eqFld at q
      obtain ⟨o1, o2, o3, o4, o1', o2', o3', o4'⟩ := ons
      walk_at "go"
      cases c1 : decide (V.str n = V.str n') with
      | false =>
        rw [c1] at q
        exact iteF q
      | true =>
      rw [c1] at q
      refine iteT ?_
      walk_at "go"
      cases c2 : decide (V.int lo = V.int lo') with
      | false =>
        rw [c2] at q
        exact iteF q
      | true =>
      rw [c2] at q
      refine iteT ?_
      walk_at "go"
      cases c3 : decide (V.int sz = V.int sz') with
      | false =>
        rw [c3] at q
        exact iteF q
      | true =>
      rw [c3] at q
      refine iteT ?_
      walk_at "go"
      obtain ⟨dk, sk, yk⟩ := id hk
      refine ⟨k, dk, _, .ref C, rfl, yk, ty_kind T hj, nfC, .inl ⟨k, j, r, wr, d, r', w', d', rfl, hk, hj, _, rfl, ?_⟩⟩
      refine ⟨_, rfl, ?_⟩
      cases c4 : (decide (r = r') && decide (wr = w') && decide (d = d')) with
      | false =>
        rw [c4] at q
        exact iteF q
      | true =>
      rw [c4] at q
      refine iteT ?_
      walk_at "go"
      cases c5 : decide (V.int rs = V.int rs') with
      | false =>
        rw [c5] at q
        exact iteF q
      | true =>
      rw [c5] at q
      refine iteT ?_
      walk_at "go"
      refine w_eq (on_scal o1 o1') ?_
      refine ⟨_, rfl, ?_⟩
      cases d1 : decide (lk = lk') with
      | false =>
        rw [d1] at q
        exact iteF q
      | true =>
      rw [d1] at q
      refine iteT ?_
      walk_at "go"
      refine w_eq (on_scal o2 o2') ?_
      refine ⟨_, rfl, ?_⟩
      cases d2 : decide (ky = ky') with
      | false =>
        rw [d2] at q
        exact iteF q
      | true =>
      rw [d2] at q
      refine iteT ?_
      walk_at "go"
      refine w_eq (on_scal o3 o3') ?_
      refine ⟨_, rfl, ?_⟩
      cases d3 : decide (cm = cm') with
      | false =>
        rw [d3] at q
        exact iteF q
      | true =>
      rw [d3] at q
      refine iteT ?_
      walk_at "go"
      refine w_eq (on_scal o4 o4') ?_
      exact q
end
end Law

set_option Elab.async false
set_option linter.all false
set_option maxRecDepth 100000
set_option maxHeartbeats 4000000
namespace Law
open PySem PySem.Spec PySem.Calls PyProof.Rows L2 KG LamX
local macro_rules | `(tactic| walk_at "1") => `(tactic| first
  | (with_reducible refine w_var rfl ?_) | (with_reducible refine w_c ?_) | (with_reducible refine w_seq ?_) | (with_reducible refine w_asg ?_) | (with_reducible refine w_gname ?_) | (with_reducible refine w_op ?_) | (with_reducible refine w_un ?_)
  | (with_reducible refine w_add ?_) | (with_reducible refine w_sub ?_) | ((with_reducible refine' w_mod ?mo ?_); (case mo => first | assumption | decide | omega)) | (with_reducible refine w_and ?_) | (with_reducible refine w_or ?_) | (with_reducible refine w_xor ?_)
  | (with_reducible refine w_gt ?_) | (with_reducible refine w_lt ?_) | (with_reducible refine w_ge ?_) | (with_reducible refine w_le ?_) | ((with_reducible refine' w_eq ?sc ?_); (case sc => rfl)) | ((with_reducible refine' w_ne ?sc ?_); (case sc => rfl))
  | (with_reducible refine w_ret ?_) | (with_reducible refine w_next ?_) | (with_reducible refine w_ifs ?_) | (with_reducible refine w_ifx ?_) | (with_reducible refine w_test ?_) | (with_reducible refine w_tB ?_) | (with_reducible refine w_bl ?_)
  | ((with_reducible refine' w_ixL ?ixh ?ixa ?_); (case ixh => first | exact SqL.of (by assumption)); (case ixa => first | rfl | skip)) | ((with_reducible refine' w_ixT ?ixh ?ixa ?_); (case ixh => first | exact SqT.of (by assumption)); (case ixa => first | rfl | skip))
  | ((with_reducible refine' w_fld ?_)) | ((with_reducible refine' fld ?fh ?fc ?fn ?fl ?_); (case fh => assumption); (case fc => assumption); (case fn => assumption); (case fl => rfl)) | (with_reducible refine w_sfld ?_)
  | (with_reducible refine Or.inl ⟨_, rfl, ?_⟩) | (with_reducible refine w_gsub ?_) | (with_reducible refine w_andV ?_) | (with_reducible refine w_orV ?_)
  | (with_reducible refine w_nil ?_) | (with_reducible refine w_cons ?_) | (with_reducible refine w_tup ?_) | (with_reducible refine w_lst ?_) | (with_reducible refine w_and2 ?_) | (with_reducible refine w_or2 ?_) | (with_reducible refine w_not ?_) | (with_reducible refine w_cb ?_) | (with_reducible refine w_call ?_) | (with_reducible refine w_par ?_) | (with_reducible refine w_pnil ?_) | (with_reducible refine w_pcons ?_) | (with_reducible refine w_dput ?_) | (with_reducible refine w_dget ?_) | (with_reducible refine w_for ?_) | (with_reducible refine w_itup ?_) | (with_reducible refine w_ilist ?_) | (with_reducible refine w_irng ?_) | (with_reducible refine w_meth ?_) | (with_reducible refine w_make ?_) | (with_reducible refine w_makeK ?_) | (with_reducible refine w_methK ?_) | ((with_reducible refine' mth ?mh ?ml ?_); (case mh => assumption); (case ml => rfl)) | (with_reducible refine w_drop ?_))
local macro_rules | `(tactic| walk_at "go") => `(tactic| ((repeat (walk_at "1")); try dsimp only))
local macro_rules | `(tactic| walk_at "1") => `(tactic| first
  | (with_reducible refine w_notV ?_) | (with_reducible refine w_callK ?_) | (with_reducible refine w_lc ?_) | (with_reducible refine w_chain ?_) | (with_reducible refine w_neg ?_) | ((with_reducible refine' w_shr ?mo ?_); (case mo => first | assumption | omega)))
/-- the pen at p -/
def PenC (n : Nat) (p l : Addr) (cells : List Int) (H : Hp) : Prop := cells.length ≤ 63 ∧ H l = some (.lst (cells.map V.int)) ∧ ∃ (a : Nat) (r : Int), a ≤ n ∧ H p = some (.lst [.ref l, .int a, .int r])
def spDraw : Sp := fun vs H Q _ => ∃ (p l : Addr) (cells : List Int) (n : Nat) (m : Int), vs = [.ref p, .int m] ∧ PenC n p l cells H ∧ n ≤ 100000 ∧ 0 < m ∧ m < 1073741824 ∧
  ∀ (d : Int) (H' : Hp), 0 ≤ d → d < m → PenC (n + 1) p l cells H' → Kp p H H' → Q (.int d) H'
structure Bi (mg : Str → Option Value) : Prop where
  g_int : mg "int" = none
  g_len : mg "len" = none
  g_abs : mg "abs" = none
  g_list : mg "list" = none
  g_range : mg "range" = none
  g_str : mg "str" = none
  g_tuple : mg "tuple" = none
  g_isinstance : mg "isinstance" = none
theorem dp_ints {K : PySem.W.Frag} {H : Hp} : ∀ ns : List Int, DpAll K H (ns.map V.int) (ns.map PyData.int)
  | [] => .nil
  | n :: ns => .cons (.int n) (dp_ints ns)
theorem sh_ints (ns : List Int) : SeqAt.shaped (.list (ns.map PyData.int)) = true := by
  have h1 : ∀ ns : List Int, PyData.canLayAll0 (ns.map PyData.int) = true := fun ns => by
    induction ns with
    | nil => simp [PyData.canLayAll0]
    | cons a as ih => simp only [List.map_cons, PyData.canLayAll0, PyData.canLay0, ih, Bool.and_self]
  have h2 : ∀ ns : List Int, PyData.depthAll (ns.map PyData.int) = 0 := fun ns => by
    induction ns with
    | nil => simp [PyData.depthAll]
    | cons a as ih => simp only [List.map_cons, PyData.depthAll, PyData.depth, ih, Nat.max_self]
  unfold SeqAt.shaped
  simp only [PyData.canLay0, PyData.depth, h1, h2]
  decide
theorem at_int {cells : List Int} {i : Int} (h0 : 0 ≤ i) (h1 : i < (cells.length : Int)) : ∃ c : Int, atI (cells.map V.int) i = some (.int c) := by
  have h : i.toNat < cells.length := by omega
  refine ⟨cells[i.toNat], at_of (j := i.toNat) (by omega) ?_⟩
  rw [List.getElem?_map, List.getElem?_eq_getElem h]
  rfl
section
variable {P : Program} {w : World} {K : PySem.W.Frag} {mg : Str → Option Value} {base : Heap}
theorem ok_draw (D : DefAt K mg "_law_draw" s__law_draw ["_law_pen_here", "_law_many"]) (B : Bi mg) : Cal P w K mg base 1 "_law_draw" spDraw := by
  refine D.cal sc__law_draw (fun vs H Q E h => ?_) (fun f cdv A outer s H vs Q E rm gd h => ?_)
  · obtain ⟨p, l, cells, n, m, rfl, _⟩ := h
    rfl
  · obtain ⟨p, l, cells, n, m, rfl, ⟨hc, hl, a, r, ha, hp⟩, hn, hm, hm2, k⟩ := h
    have hpl : p ≠ l := ne_of hp hl (by
      intro z
      cases cells with
      | nil => cases z
      | cons c cs => injection z with z; injection z with z; cases z)
    refine ⟨_, (pss_cons (ps_if (pt_cmpR op_gt (pe_ix ix_list (pv 0) pe_int (fun _ _ => rfl)) pe_int (nomark _))
      (pss_cons (ps_set (i := 2) sc__law_draw.nd rfl (Or.inl rfl) (pe_op op_mod (pe_callTy call_int1 (by rfl) B.g_int (by decide +kernel) (pa_cons (pe_ix ix_list (pv 0) pe_int (fun _ _ => rfl)) pa_nil)) (pv 1)))
      (pss_cons (ps_asg (pe_op op_fdiv (pe_ix ix_list (pv 0) pe_int (fun _ _ => rfl)) (pv 1)) (pg_sub (pv 0) pe_int set_list))
      (pss_one (ps_ret (pv 2)))))
      pss_nil)
    (pss_cons (ps_set (i := 3) sc__law_draw.nd rfl (Or.inl rfl) (pe_ix ix_list (pv 0) pe_int (fun _ _ => rfl)))
    (pss_cons (ps_asg (pe_op op_add (pv 3) pe_int) (pg_sub (pv 0) pe_int set_list))
    (pss_cons (ps_set (i := 4) sc__law_draw.nd rfl (Or.inl rfl) (pe_op op_add (pe_op op_mul pe_int (pv 3)) pe_int))
    (pss_mid (ps_if (pt_cmpR (op_neD rm.units) (pe_ix ix_list (pv 0) pe_int (fun _ _ => rfl)) (pe_lst pa_nil) (nomark _))
      (pss_one (ps_set (i := 4) sc__law_draw.nd rfl (Or.inl rfl) (pe_ix ix_list (pe_ix ix_list (pv 0) pe_int (fun _ _ => rfl)) (pe_op op_mod (pe_callTy call_int1 (by rfl) B.g_int (by decide +kernel) (pa_cons (pv 3) pa_nil)) (pe_callB call_len_seq (by rfl) B.g_len (by decide +kernel) (pa_cons (pe_ix ix_list (pv 0) pe_int (fun _ _ => rfl)) pa_nil))) (fun _ _ => rfl))))
      pss_nil)
    (pss_mid (ps_if (PW.pt (pw_and (pt_cmpR op_lt (pv 3) (pe_callB call_len_seq (by rfl) B.g_len (by decide +kernel) (pa_cons (pe_ix ix_list (pv 0) pe_int (fun _ _ => rfl)) pa_nil)) (nomark _)) (pw_and1 (pt_cmpR op_ge (pe_callB call_abs (by rfl) B.g_abs (by decide +kernel) (pa_cons (pv 4) pa_nil)) (pe_op op_pow pe_int pe_int) (nomark _)))))
      (pss_cons (ps_set (i := 5) sc__law_draw.nd rfl (Or.inl rfl) (pe_op op_add (pe_op op_mul pe_int (pe_op op_sub (pe_callB call_abs (by rfl) B.g_abs (by decide +kernel) (pa_cons (pv 4) pa_nil)) (pe_op op_pow pe_int pe_int))) (pe_callTy call_int1 (by rfl) B.g_int (by decide +kernel) (pa_cons (pe_cmpR op_lt (pv 4) pe_int (nomark _)) pa_nil))))
      (pss_cons (ps_asg (pe_op op_fdiv (pv 5) (pv 1)) (pg_sub (pv 0) pe_int set_list))
      (pss_one (ps_ret (pe_op op_mod (pe_callTy call_int1 (by rfl) B.g_int (by decide +kernel) (pa_cons (pv 5) pa_nil)) (pv 1))))))
      pss_nil)
    (pss_cons (ps_set (i := 6) sc__law_draw.nd rfl (Or.inl rfl) (pe_op op_mod (pe_callTy call_int1 (by rfl) B.g_int (by decide +kernel) (pa_cons (pe_op op_pow (pe_op op_add (pe_op op_add (pe_op op_mod (pe_callTy call_int1 (by rfl) B.g_int (by decide +kernel) (pa_cons (pv 4) pa_nil)) pe_int) (pe_op op_mul pe_int (pv 3))) pe_int) pe_int) pa_nil)) pe_int))
    (pss_cons (ps_set (i := 6) sc__law_draw.nd rfl (Or.inl rfl) (pe_op op_mod (pe_callTy call_int1 (by rfl) B.g_int (by decide +kernel) (pa_cons (pe_op op_pow (pe_op op_add (pe_op op_add (pe_op op_mul (pv 6) (pe_op op_add (pe_op op_mul pe_int (pv 3)) pe_int)) (pe_op op_mul (pe_op op_mul pe_int (pv 3)) (pv 3))) pe_int) pe_int) pa_nil)) pe_int))
    (pss_one (ps_ret (pe_op op_mod (pe_callTy call_int1 (by rfl) B.g_int (by decide +kernel) (pa_cons (pe_op op_fdiv (pv 6) pe_int) pa_nil)) (pv 1)))))))))))), ?_⟩
    walk_at "go"
    refine ite2 (fun h0 => ?_) (fun h0 => ?_)
    · walk_at "go"
      refine w_fdiv ⟨hm, hm2⟩ ?_
      walk_at "go"
      refine w_setG hp rfl rfl fun H1 hp1 e1 => ?_
      walk_at "go"
      refine k _ _ (Int.emod_nonneg _ (by omega)) (Int.emod_lt_of_pos _ hm) ⟨hc, (e1 l hpl.symm).trans hl, a, r / m, by omega, hp1⟩ fun b o e nb => (e1 b nb).trans e
    · walk_at "go"
      refine w_setG hp rfl rfl fun H1 hp1 e1 => ?_
      have hl1 : H1 l = some (.lst (cells.map V.int)) := (e1 l hpl.symm).trans hl
      have hp1 : H1 p = some (.lst [.ref l, .int ((a + 1 : Nat) : Int), .int r]) := hp1
      walk_at "go"
      refine w_mul (.inl ⟨by omega, by omega⟩) ?_
      walk_at "go"
      refine ⟨fun σ' H' => Same H1 H' ∧ ∃ c : Int, σ' = [some (.ref p), some (.int m), none, some (.int a), some (.int c), none, none], ?_, ?_⟩
      · walk_at "go"
        refine new (by decide) fun z H2 nz hz s2 => ?_
        have hp2 := s2 _ _ hp1
        have hl2 := s2 _ _ hl1
        refine ⟨.list (cells.map .int), .list [], .lst (SqL.of hl2) (dp_ints cells), .lst (SqL.of hz) .nil, sh_ints cells, by decide +kernel, ?_⟩
        walk_at "go"
        refine ite2 (fun hne => ?_) (fun _ => ?_)
        · have pos : 0 < cells.length := by
            cases cells with
            | nil => exact absurd hne (by decide)
            | cons c cs => exact Nat.succ_pos _
          walk_at "go"
          refine ⟨l, cells.map .int, rfl, .inl (SqL.of hl2), ?_⟩
          rw [List.length_map]
          walk_at "go"
          have b0 : 0 ≤ (a : Int) % (cells.length : Int) := Int.emod_nonneg _ (by omega)
          have b1 : (a : Int) % (cells.length : Int) < (cells.length : Int) := Int.emod_lt_of_pos _ (by omega)
          obtain ⟨c, hc'⟩ := at_int (cells := cells) b0 b1
          refine w_ixL (SqL.of hl2) hc' ?_
          walk_at "go"
          exact ⟨s2, c, rfl⟩
        · walk_at "go"
          exact ⟨s2, _, rfl⟩
      · rintro σ' H2 ⟨s2, c, rfl⟩
        have hp2 := s2 _ _ hp1
        have hl2 := s2 _ _ hl1
        have fin : ∀ (d : Int) (rr : Int) (H' : Hp), 0 ≤ d → d < m → H' p = some (.lst [.ref l, .int ((a + 1 : Nat) : Int), .int rr]) → (∀ b, b ≠ p → H' b = H2 b) → Q (V.int d) H' := fun d rr H' d0 d1 hp' e' =>
          k d H' d0 d1 ⟨hc, (e' l hpl.symm).trans hl2, a + 1, rr, by omega, hp'⟩ fun b o e nb => (e' b nb).trans (s2 _ _ ((e1 b nb).trans e))
        have absok : ∀ c : Int, 0 ≤ (if c < 0 then -c else c) := fun c => by split <;> omega
        refine ⟨fun σ' H' => H' = H2 ∧ σ' = [some (.ref p), some (.int m), none, some (.int a), some (.int c), none, none], ?_, ?_⟩
        · have big : ∀ (b : Int) (D : Ends), (∀ (d : Int) (H' : Hp), D.rt (.int d) H' = Q (.int d) H') → True := fun _ _ _ => trivial
          walk_at "go"
          refine ⟨l, cells.map .int, rfl, .inl (SqL.of hl2), ?_⟩
          rw [List.length_map]
          walk_at "go"
          refine ite2 (fun h1 => ?_) (fun h1 => ?_)
          · walk_at "go"
            refine ⟨c, rfl, ?_⟩
            walk_at "go"
            refine w_pow ⟨by decide, by decide, by decide⟩ ?_
            walk_at "go"
            refine ite2 (fun h2 => ?_) (fun h2 => ?_)
            · walk_at "go"
              refine ⟨c, rfl, ?_⟩
              walk_at "go"
              refine w_pow ⟨by decide, by decide, by decide⟩ ?_
              walk_at "go"
              refine w_mul (.inl ⟨by decide, by decide⟩) ?_
              walk_at "go"
              refine .inr ⟨_, rfl, ?_⟩
              walk_at "go"
              refine w_fdiv ⟨hm, hm2⟩ ?_
              walk_at "go"
              refine w_setG hp2 rfl rfl fun H3 hp3 e3 => ?_
              walk_at "go"
              exact fin _ _ _ (Int.emod_nonneg _ (by omega)) (Int.emod_lt_of_pos _ hm) hp3 e3
            · walk_at "go"
              exact ⟨rfl, rfl⟩
          · walk_at "go"
            refine ite2 (fun h2 => absurd h2 (by decide)) (fun h2 => ?_)
            walk_at "go"
            exact ⟨rfl, rfl⟩
        · rintro σ' H' ⟨rfl, rfl⟩
          have an : 0 ≤ (a : Int) := Int.natCast_nonneg _
          have a2 : (a : Int) ≤ 100000 := by omega
          walk_at "go"
          refine w_mul (.inl ⟨by decide, by decide⟩) ?_
          walk_at "go"
          have q0 : 0 ≤ c % 2147483579 := Int.emod_nonneg _ (by decide)
          have q1 : c % 2147483579 < 2147483579 := Int.emod_lt_of_pos _ (by decide)
          refine w_pow ⟨by decide, by decide, by omega⟩ ?_
          walk_at "go"
          generalize hx : (c % 2147483579 + 50021 * (a : Int) + 301) ^ Int.toNat 5 % 2147483497 = x
          have x0 : 0 ≤ x := by rw [← hx]; exact Int.emod_nonneg _ (by decide)
          have x1 : x < 2147483497 := by rw [← hx]; exact Int.emod_lt_of_pos _ (by decide)
          refine w_mul (.inl ⟨by decide, by decide⟩) ?_
          walk_at "go"
          refine w_mul (.inl ⟨by omega, by omega⟩) ?_
          walk_at "go"
          refine w_mul (.inl ⟨by decide, by decide⟩) ?_
          walk_at "go"
          refine w_mul (.inr ⟨by omega, by omega⟩) ?_
          walk_at "go"
          have y0 : 0 ≤ x * (2 * (a : Int) + 207) := Int.mul_nonneg x0 (by omega)
          have y1 : x * (2 * (a : Int) + 207) ≤ 2147483497 * 200207 := Int.mul_le_mul (by omega) (by omega) (by omega) (by decide)
          have z0 : 0 ≤ 70003 * (a : Int) * (a : Int) := Int.mul_nonneg (by omega) an
          have z1 : 70003 * (a : Int) * (a : Int) ≤ 70003 * 100000 * 100000 := Int.mul_le_mul (by omega) a2 an (by decide)
          refine w_pow ⟨by decide, by decide, by omega⟩ ?_
          walk_at "go"
          refine w_fdiv ⟨by decide, by decide⟩ ?_
          walk_at "go"
          exact fin _ r _ (Int.emod_nonneg _ (by omega)) (Int.emod_lt_of_pos _ hm) hp2 fun _ _ => rfl
theorem cut_ints (ns : List Int) (lo hi : Option Int) : ∃ ms : List Int, cutV (ns.map V.int) lo hi = ms.map V.int ∧ ms.length ≤ ns.length := by
  unfold cutV
  refine ⟨(ns.drop (HT.sIx (ns.map V.int).length 0 lo)).take (HT.sIx (ns.map V.int).length (ns.map V.int).length hi - HT.sIx (ns.map V.int).length 0 lo), ?_, ?_⟩
  · rw [List.map_take, List.map_drop]
  · rw [List.length_take, List.length_drop]
    omega
def spPen (K : PySem.W.Frag) : Sp := fun vs H Q _ => ∃ (a : Addr) (ns : List Int), vs = [.ref a] ∧ SqL K H a (ns.map V.int) ∧ ns.length ≤ 63 ∧
  ∀ (p l : Addr) (cells : List Int) (H' : Hp), H p = none → PenC 0 p l cells H' → Same H H' → Q (.ref p) H'
theorem ok_pen (D : DefAt K mg "_law_pen" s__law_pen ["_law_script"]) (B : Bi mg) : Cal P w K mg base 1 "_law_pen" (spPen K) := by
  refine D.cal sc__law_pen (fun vs H Q E h => ?_) (fun f cdv A outer s H vs Q E rm gd h => ?_)
  · obtain ⟨a, ns, rfl, _⟩ := h
    rfl
  · obtain ⟨a, ns, rfl, hs, hl, k⟩ := h
    obtain ⟨ms, em, lm⟩ := cut_ints ns none (some 63)
    refine ⟨_, (pss_one (ps_ret (pe_lst (pa_cons (pe_callTy call_list_of (by rfl) B.g_list (by decide +kernel) (pa_cons (pe_slice sl_list (pv 0) po_none (po_some pe_int)) pa_nil)) (pa_cons pe_int (pa_cons pe_int pa_nil)))))), ?_⟩
    walk_at "go"
    refine ⟨_, rfl, _, rfl, a, ns.map .int, rfl, hs, fun p1 n1 => ?_⟩
    rw [em]
    have s1 : Same H (upd H p1 (.lst (ms.map V.int))) := fun b u e => by rw [upd_ne (ne_of_none e n1)]; exact e
    walk_at "go"
    refine ⟨p1, ms.map .int, rfl, .inl (SqL.of upd_same), fun l nl => ?_⟩
    have s2 : Same (upd H p1 (.lst (ms.map V.int))) (upd (upd H p1 (.lst (ms.map V.int))) l (.lst (ms.map V.int))) := fun b u e => by rw [upd_ne (ne_of_none e nl)]; exact e
    walk_at "go"
    refine new (by show 3 ≤ sizeLine; decide) fun p H3 np h3 s3 => ?_
    exact k p l ms H3 (s1.free (s2.free np)) ⟨by omega, s3 _ _ upd_same, 0, 0, Nat.le_refl _, h3⟩ (s1.trans (s2.trans s3))
end
end Law

set_option Elab.async false
set_option linter.all false
set_option maxRecDepth 100000
set_option maxHeartbeats 4000000
namespace Law
open PySem PySem.Spec PySem.Calls PyProof.Rows L2 KG LamX
local macro_rules | `(tactic| walk_at "1") => `(tactic| first
  | (with_reducible refine w_var rfl ?_) | (with_reducible refine w_c ?_) | (with_reducible refine w_seq ?_) | (with_reducible refine w_asg ?_) | (with_reducible refine w_gname ?_) | (with_reducible refine w_op ?_) | (with_reducible refine w_un ?_)
  | (with_reducible refine w_add ?_) | (with_reducible refine w_sub ?_) | ((with_reducible refine' w_mod ?mo ?_); (case mo => first | assumption | decide | omega)) | (with_reducible refine w_and ?_) | (with_reducible refine w_or ?_) | (with_reducible refine w_xor ?_)
  | (with_reducible refine w_gt ?_) | (with_reducible refine w_lt ?_) | (with_reducible refine w_ge ?_) | (with_reducible refine w_le ?_) | ((with_reducible refine' w_eq ?sc ?_); (case sc => rfl)) | ((with_reducible refine' w_ne ?sc ?_); (case sc => rfl))
  | (with_reducible refine w_ret ?_) | (with_reducible refine w_next ?_) | (with_reducible refine w_ifs ?_) | (with_reducible refine w_ifx ?_) | (with_reducible refine w_test ?_) | (with_reducible refine w_tB ?_) | (with_reducible refine w_bl ?_)
  | ((with_reducible refine' w_ixL ?ixh ?ixa ?_); (case ixh => first | exact SqL.of (by assumption)); (case ixa => first | rfl | skip)) | ((with_reducible refine' w_ixT ?ixh ?ixa ?_); (case ixh => first | exact SqT.of (by assumption)); (case ixa => first | rfl | skip))
  | ((with_reducible refine' w_fld ?_)) | ((with_reducible refine' fld ?fh ?fc ?fn ?fl ?_); (case fh => assumption); (case fc => assumption); (case fn => assumption); (case fl => rfl)) | (with_reducible refine w_sfld ?_)
  | (with_reducible refine Or.inl ⟨_, rfl, ?_⟩) | (with_reducible refine w_gsub ?_) | (with_reducible refine w_andV ?_) | (with_reducible refine w_orV ?_)
  | (with_reducible refine w_nil ?_) | (with_reducible refine w_cons ?_) | (with_reducible refine w_tup ?_) | (with_reducible refine w_lst ?_) | (with_reducible refine w_and2 ?_) | (with_reducible refine w_or2 ?_) | (with_reducible refine w_not ?_) | (with_reducible refine w_cb ?_) | (with_reducible refine w_call ?_) | (with_reducible refine w_par ?_) | (with_reducible refine w_pnil ?_) | (with_reducible refine w_pcons ?_) | (with_reducible refine w_dput ?_) | (with_reducible refine w_dget ?_) | (with_reducible refine w_for ?_) | (with_reducible refine w_itup ?_) | (with_reducible refine w_ilist ?_) | (with_reducible refine w_irng ?_) | (with_reducible refine w_meth ?_) | (with_reducible refine w_make ?_) | (with_reducible refine w_makeK ?_) | (with_reducible refine w_methK ?_) | ((with_reducible refine' mth ?mh ?ml ?_); (case mh => assumption); (case ml => rfl)) | (with_reducible refine w_drop ?_))
local macro_rules | `(tactic| walk_at "go") => `(tactic| ((repeat (walk_at "1")); try dsimp only))
local macro_rules | `(tactic| walk_at "1") => `(tactic| first
  | (with_reducible refine w_notV ?_) | (with_reducible refine w_callK ?_) | (with_reducible refine w_lc ?_) | (with_reducible refine w_chain ?_) | (with_reducible refine w_neg ?_) | ((with_reducible refine' w_shr ?mo ?_); (case mo => first | assumption | omega)))
def one (c : Nat) : Str := ⟨#[c]⟩
theorem app_cps (x y : Str) : (x ++ y).cps.toList = x.cps.toList ++ y.cps.toList := by
  show (x.cps ++ y.cps).toList = _
  exact Array.toList_append
theorem join_ones : ∀ cs : List Nat, (Str.join Str.empty (cs.map one)).cps.toList = cs
  | [] => rfl
  | [c] => rfl
  | c :: b :: cs => by
    show (one c ++ Str.empty ++ Str.join Str.empty ((b :: cs).map one)).cps.toList = _
    rw [app_cps, app_cps, join_ones (b :: cs)]
    rfl
theorem sum_ones : ∀ cs : List Nat, ((cs.map one).map (·.length)).sum = cs.length
  | [] => rfl
  | c :: cs => by
    rw [List.map_cons, List.map_cons, List.sum_cons, sum_ones cs, List.length_cons]
    show 1 + cs.length = cs.length + 1
    omega
theorem PenC.same {n : Nat} {p l : Addr} {cells : List Int} {H H' : Hp} (h : PenC n p l cells H) (s : Same H H') : PenC n p l cells H' := by
  obtain ⟨a, b, c, d, e, f⟩ := h
  exact ⟨a, s _ _ b, c, d, e, s _ _ f⟩
theorem at_strs {l : List Str} {i : Int} (h0 : 0 ≤ i) (h1 : i < (l.length : Int)) : ∃ x, x ∈ l ∧ atI (l.map V.str) i = some (.str x) := by
  have h : i.toNat < l.length := by omega
  refine ⟨l[i.toNat], List.getElem_mem h, at_of (j := i.toNat) (by omega) ?_⟩
  rw [List.getElem?_map, List.getElem?_eq_getElem h]
  rfl
theorem PenC.mono {n m : Nat} {p l : Addr} {cells : List Int} {H : Hp} (h : PenC n p l cells H) (hm : n ≤ m) : PenC m p l cells H := by
  obtain ⟨q, h1, x, y, z, h2⟩ := h
  exact ⟨q, h1, x, y, Nat.le_trans z hm, h2⟩
theorem PenC.ne {n : Nat} {p l D : Addr} {cells : List Int} {H : Hp} (pen : PenC n p l cells H) (nD : H D = none) : D ≠ p ∧ D ≠ l := by
  obtain ⟨_, h1, _, _, _, h2⟩ := pen
  exact ⟨(fun z => by rw [z, h2] at nD; cases nD), (fun z => by rw [z, h1] at nD; cases nD)⟩
theorem PenC.put {n : Nat} {p l D : Addr} {cells : List Int} {H : Hp} {o : HO} (pen : PenC n p l cells H) (n1 : D ≠ p) (n2 : D ≠ l) : PenC n p l cells (upd H D o) := by
  obtain ⟨q, h1, x, y, z, h2⟩ := pen
  exact ⟨q, (upd_ne n2.symm).trans h1, x, y, z, (upd_ne n1.symm).trans h2⟩
theorem w_tM1 {r : V → List V → Hp → VK → Prop} {to te : TE} {σ : L2.St} {H : Hp} {Q : VK} (q : to σ H fun x H1 => (∃ a, x = .str a) ∧ te σ H1 fun y H2 => r x [y] H2 Q) : tM1 r to te σ H Q := q
theorem big_of {n : Nat} (h : n ≤ 1000) : n < sizeLine := Nat.lt_of_le_of_lt h (by decide)
def signL : Str := "ABCDEFGHIJKLMNOPQRSTUVWXYZ0123456789_"
def digL : Str := "0123456789_"
/-- a right name -/
def Nm (z : Str) : Prop := z.cps.toList.length ≤ 8 ∧ isNm (.str z) = true ∧ PyData.strOk z = true
theorem sign_facts : ∀ c ∈ signL.cps.toList, c ∈ nameL.cps.toList ∧ c < 128 := by decide +kernel
theorem sign_cap : ∀ i : Nat, i < 26 → ∀ c, signL.cps.toList[i]? = some c → c ∈ capL.cps.toList := by decide +kernel
theorem nm_of {c : Nat} {cs : List Nat} {z : Str} (hz : z.cps.toList = c :: cs) (h1 : c ∈ capL.cps.toList) (hs : ∀ b ∈ c :: cs, b ∈ signL.cps.toList) (hl : cs.length ≤ 7) : Nm z := by
  refine ⟨by rw [hz, List.length_cons]; omega, ?_, ?_⟩
  · unfold isNm
    have e1 : hasO nameL (.str z) = true := by
      show (decide (1 ≤ z.length ∧ z.length ≤ 8) && _) = true
      have zl : z.length = cs.length + 1 := by
        show z.cps.size = _
        rw [← Array.length_toList, hz]
        rfl
      rw [Bool.and_eq_true, decide_eq_true_iff, hz, List.all_eq_true]
      exact ⟨by omega, fun b hb => decide_eq_true (sign_facts b (hs b hb)).1⟩
    rw [e1, Bool.true_and]
    dsimp only
    rw [hz]
    exact decide_eq_true h1
  · unfold PyData.strOk
    rw [Array.all_eq_true']
    intro b hb
    have hb' : b ∈ c :: cs := by rw [← hz]; exact Array.mem_toList_iff.mpr hb
    exact decide_eq_true (Nat.lt_trans (sign_facts b (hs b hb')).2 (by decide))
def isFr (a b : Int) : V → Bool | .int v => decide (a ≤ v) && decide (v ≤ b) | _ => false
def spName : Sp := fun vs H Q _ => ∃ (p l : Addr) (cells : List Int) (n : Nat), vs = [.ref p] ∧ PenC n p l cells H ∧ n + 20 ≤ 100000 ∧ ∀ (z : Str) H', Nm z → PenC (n + 9) p l cells H' → Kp p H H' → Q (.str z) H'
def spFr (K : PySem.W.Frag) : Sp := fun vs H Q _ => ∃ (x : V) (a b : Int), vs = [x, .int a, .int b] ∧ OdV K H x ∧ Q (.bl (isFr a b x)) H
section
variable {P : Program} {w : World} {K : PySem.W.Frag} {mg : Str → Option Value} {base : Heap}
theorem ok_isfr (D : DefAt K mg "_law_is_from" s__law_is_from ["_law_value", "_law_least", "_law_most"]) (B : B1 mg) : Cal P w K mg base 1 "_law_is_from" (spFr K) := by
  refine D.cal sc__law_is_from (fun vs H Q E h => ?_) (fun f cdv A outer s H vs Q E rm gd h => ?_)
  · obtain ⟨x, a, b, rfl, _⟩ := h
    rfl
  · obtain ⟨x, a, b, rfl, ov, q⟩ := h
    obtain ⟨t, ty, k1, k2, _⟩ := ov.at_.ty
    refine ⟨_, (pss_one (ps_ret (pe_and (pe_callB call_isi (by rfl) B.g_isinstance (by decide +kernel) (pa_cons (pv 0) (pa_cons (pe_bltn (v := .ty "int") rfl B.g_int (by decide +kernel) rfl) pa_nil))) (pe_and (pe_not (pe_callB call_isi (by rfl) B.g_isinstance (by decide +kernel) (pa_cons (pv 0) (pa_cons (pe_bltn (v := .ty "bool") rfl B.g_bool (by decide +kernel) rfl) pa_nil)))) (pe_one (pe_chain op_le op_le (pv 1) (pv 0) (pv 2))))))), ?_⟩
    walk_at "go"
    refine ⟨x, .ty "int", .type t, .type "int", _, rfl, .ty _, ty, kit_ty k1, _, rfl, ?_⟩
    cases x with
    | int v =>
      refine iteT ?_
      walk_at "go"
      refine ⟨.int v, .ty "bool", .type t, .type "bool", _, rfl, .ty _, ty, kit_ty k2, _, rfl, ?_⟩
      refine ⟨true, rfl, iteT ?_⟩
      walk_at "go"
      have e : isFr a b (.int v) = (decide (a ≤ v) && decide (v ≤ b)) := rfl
      rw [e] at q
      cases h : decide (a ≤ v) with
      | false =>
        rw [h] at q
        exact iteF q
      | true =>
        rw [h] at q
        refine iteT ?_
        walk_at "go"
        exact q
    | bl v =>
      refine iteT ?_
      walk_at "go"
      refine ⟨.bl v, .ty "bool", .type t, .type "bool", _, rfl, .ty _, ty, kit_ty k2, _, rfl, ?_⟩
      exact ⟨false, rfl, iteF q⟩
    | _ => exact iteF q
theorem ok_name (D : DefAt K mg "_law_name" s__law_name ["_law_pen_here"]) (B : B1 mg) (c_law_draw : Cal P w K mg base 1 "_law_draw" spDraw) : Cal P w K mg base 2 "_law_name" spName := by
  refine D.cal (k := 1) sc__law_name (fun vs H Q E h => ?_) (fun f cdv A outer s H vs Q E rm gd h => ?_)
  · obtain ⟨p, l, cells, n, rfl, _⟩ := h
    rfl
  · obtain ⟨p, l, cells, n, rfl, pen, hn, q⟩ := h
    refine ⟨_, (pss_cons (ps_set (i := 1) sc__law_name.nd rfl (Or.inr rfl) pe_str)
    (pss_one (ps_ret (pe_op op_add_str (pe_ix ix_str (pv 1) (pc c_law_draw rm (by decide) gd rfl (pa_cons (pv 0) (pa_cons pe_int pa_nil))) (fun _ _ => rfl)) (pe_join pe_str (pe_lc (own := [("_law_step", 2)]) (g := (gName 2)) (by rfl) sc__law_name.nd (pi_range1 rfl B.g_range (pa_cons (pc c_law_draw rm (by decide) gd rfl (pa_cons (pv 0) (pa_cons pe_int pa_nil))) pa_nil)) (blkOk_by (own := [("_law_step", 2)]) (N := ["_law_pen_here", "_law_signs", "_law_step"]) (sc := defScope s__law_name) (by decide +kernel)) (fun _ _ _ _ _ => (pg_name (i := 2) sc__law_name.nd rfl (Or.inl rfl))) (fun _ _ _ _ _ => pts_nil) (fun _ _ _ _ _ => (pe_ix ix_str (pv 1) (pc c_law_draw rm (by decide) gd rfl (pa_cons (pv 0) (pa_cons pe_int pa_nil))) (fun _ _ => rfl))))))))), ?_⟩
    walk_at "go"
    refine ⟨p, l, cells, n, 26, rfl, pen, by omega, by decide, by decide, fun d1 H1 a0 a1 pen1 k1 => ?_⟩
    obtain ⟨j, rfl⟩ := Int.eq_ofNat_of_zero_le a0
    have sl : signL.cps.toList.length = 37 := by decide +kernel
    obtain ⟨c, ec⟩ : ∃ c, signL.cps.toList[j]? = some c := ⟨_, List.getElem?_eq_getElem (by omega)⟩
    refine ⟨signL, _, c, rfl, rfl, by decide +kernel, atI_nat ec, ?_⟩
    walk_at "go"
    refine w_tM1 ?_
    walk_at "go"
    refine ⟨⟨_, rfl⟩, ?_⟩
    walk_at "go"
    refine ⟨p, l, cells, n + 1, 8, rfl, pen1, by omega, by decide, by decide, fun d2 H2 b0 b1 pen2 k2 => ?_⟩
    walk_at "go"
    refine over_r (by omega) (by omega) ?_
    intro D nD
    have zD : Same H2 (upd H2 D (.lst [])) := fun b u e => by
      rw [upd_ne (ne_of_none e nD)]
      exact e
    obtain ⟨Dp, Dl⟩ := pen2.ne nD
    have kp2 : Kp p H H2 := fun b o hb nb => k2 _ _ (k1 _ _ hb nb) nb
    refine lc_range (lo := 0) (n := d2.toNat) (fun i H' => ∃ cs : List Nat, H' D = some (.lst ((cs.map one).map V.str)) ∧ cs.length = i ∧ (∀ b ∈ cs, b ∈ signL.cps.toList) ∧ PenC (n + 2 + i) p l cells H' ∧ Kp p H H') ⟨[], upd_same, rfl, fun c hc => by simp at hc, pen2.same zD, fun b o hb nb => zD _ _ (kp2 b o hb nb)⟩ (fun i H8 hi ⟨cs, hD, hl, hc, pen8, k8⟩ => ?_) (fun H8 ⟨cs, hD, hl, hc, pen8, k8⟩ => ?_)
    · walk_at "go"
      refine ⟨rfl, ?_⟩
      try unfold tYes
      refine iteT ?_
      walk_at "go"
      refine ⟨p, l, cells, n + 2 + i, 37, rfl, pen8, by omega, by decide, by decide, fun d9 H9 g0 g1 pen9 k9 => ?_⟩
      obtain ⟨j2, rfl⟩ := Int.eq_ofNat_of_zero_le g0
      obtain ⟨b, eb⟩ : ∃ c, signL.cps.toList[j2]? = some c := ⟨_, List.getElem?_eq_getElem (by omega)⟩
      refine ⟨signL, _, b, rfl, rfl, by decide +kernel, atI_nat eb, ?_⟩
      have hD9 := k9 _ _ hD Dp
      refine ⟨_, hD9, big_of (by rw [List.length_map, List.length_map]; omega), cs ++ [b], ?_, by rw [List.length_append, hl]; rfl, fun x hx => ?_, pen9.put Dp Dl, fun b2 o hb nb => ?_⟩
      · rw [upd_same, List.map_append, List.map_append]
        rfl
      · rcases List.mem_append.mp hx with hx | hx
        · exact hc x hx
        · rw [List.mem_singleton.mp hx]
          exact List.mem_of_getElem? eb
      · have nbD : b2 ≠ D := fun e => by
          rw [e] at hb
          have := kp2 _ _ hb (fun y => Dp y)
          rw [nD] at this
          cases this
        rw [upd_ne nbD]
        exact k9 _ _ (k8 _ _ hb nb) nb
    · walk_at "go"
      have c7 : cs.length ≤ 7 := by omega
      refine ⟨Str.empty, D, cs.map one, rfl, rfl, .inl (SqL.of hD), ?_, ?_⟩
      · rw [sum_ones]
        have : (Str.empty : Str).length = 0 := rfl
        rw [this]
        omega
      · have ex : (Txt.join Str.empty (cs.map one)).cps.toList = cs := by rw [TL.join_eq, join_ones]
        have jl : (Txt.join Str.empty (cs.map one)).length = cs.length := by
          show (Txt.join Str.empty (cs.map one)).cps.size = _
          rw [← Array.length_toList, ex]
        walk_at "go"
        refine ⟨_, _, rfl, rfl, ?_, ?_⟩
        · rw [jl]
          exact Nat.le_trans (show 1 + cs.length ≤ 8 by omega) (by decide)
        · refine q _ H8 (nm_of (c := c) (cs := cs) ?_ (sign_cap j (by omega) c ec) (fun b hb => ?_) c7) (pen8.mono (by omega)) k8
          · rw [app_cps, ex]
            rfl
          · rcases List.mem_cons.mp hb with e | hb
            · rw [e]
              exact List.mem_of_getElem? ec
            · exact hc b hb
end
end Law

set_option Elab.async false
set_option linter.all false
set_option maxRecDepth 100000
set_option maxHeartbeats 4000000
namespace Law
open PySem PySem.Spec PySem.Calls PyProof.Rows L2 KG LamX
local macro_rules | `(tactic| walk_at "1") => `(tactic| first
  | (with_reducible refine w_var rfl ?_) | (with_reducible refine w_c ?_) | (with_reducible refine w_seq ?_) | (with_reducible refine w_asg ?_) | (with_reducible refine w_gname ?_) | (with_reducible refine w_op ?_) | (with_reducible refine w_un ?_)
  | (with_reducible refine w_add ?_) | (with_reducible refine w_sub ?_) | ((with_reducible refine' w_mod ?mo ?_); (case mo => first | assumption | decide | omega)) | (with_reducible refine w_and ?_) | (with_reducible refine w_or ?_) | (with_reducible refine w_xor ?_)
  | (with_reducible refine w_gt ?_) | (with_reducible refine w_lt ?_) | (with_reducible refine w_ge ?_) | (with_reducible refine w_le ?_) | ((with_reducible refine' w_eq ?sc ?_); (case sc => rfl)) | ((with_reducible refine' w_ne ?sc ?_); (case sc => rfl))
  | (with_reducible refine w_ret ?_) | (with_reducible refine w_next ?_) | (with_reducible refine w_ifs ?_) | (with_reducible refine w_ifx ?_) | (with_reducible refine w_test ?_) | (with_reducible refine w_tB ?_) | (with_reducible refine w_bl ?_)
  | ((with_reducible refine' w_ixL ?ixh ?ixa ?_); (case ixh => first | exact SqL.of (by assumption)); (case ixa => first | rfl | skip)) | ((with_reducible refine' w_ixT ?ixh ?ixa ?_); (case ixh => first | exact SqT.of (by assumption)); (case ixa => first | rfl | skip))
  | ((with_reducible refine' w_fld ?_)) | ((with_reducible refine' fld ?fh ?fc ?fn ?fl ?_); (case fh => assumption); (case fc => assumption); (case fn => assumption); (case fl => rfl)) | (with_reducible refine w_sfld ?_)
  | (with_reducible refine Or.inl ⟨_, rfl, ?_⟩) | (with_reducible refine w_gsub ?_) | (with_reducible refine w_andV ?_) | (with_reducible refine w_orV ?_)
  | (with_reducible refine w_nil ?_) | (with_reducible refine w_cons ?_) | (with_reducible refine w_tup ?_) | (with_reducible refine w_lst ?_) | (with_reducible refine w_and2 ?_) | (with_reducible refine w_or2 ?_) | (with_reducible refine w_not ?_) | (with_reducible refine w_cb ?_) | (with_reducible refine w_call ?_) | (with_reducible refine w_par ?_) | (with_reducible refine w_pnil ?_) | (with_reducible refine w_pcons ?_) | (with_reducible refine w_dput ?_) | (with_reducible refine w_dget ?_) | (with_reducible refine w_for ?_) | (with_reducible refine w_itup ?_) | (with_reducible refine w_ilist ?_) | (with_reducible refine w_irng ?_) | (with_reducible refine w_meth ?_) | (with_reducible refine w_make ?_) | (with_reducible refine w_makeK ?_) | (with_reducible refine w_methK ?_) | ((with_reducible refine' mth ?mh ?ml ?_); (case mh => assumption); (case ml => rfl)) | (with_reducible refine w_drop ?_))
local macro_rules | `(tactic| walk_at "go") => `(tactic| ((repeat (walk_at "1")); try dsimp only))
local macro_rules | `(tactic| walk_at "1") => `(tactic| first
  | (with_reducible refine w_notV ?_) | (with_reducible refine w_callK ?_) | (with_reducible refine w_lc ?_) | (with_reducible refine w_chain ?_) | (with_reducible refine w_neg ?_) | ((with_reducible refine' w_shr ?mo ?_); (case mo => first | assumption | omega)))
theorem name_same : ∀ c : Nat, c ∈ (capL ++ ("0123456789_" : Str)).cps.toList ↔ c ∈ nameL.cps.toList := by
  have h1 : ∀ c ∈ (capL ++ ("0123456789_" : Str)).cps.toList, c ∈ nameL.cps.toList := by decide +kernel
  have h2 : ∀ c ∈ nameL.cps.toList, c ∈ (capL ++ ("0123456789_" : Str)).cps.toList := by decide +kernel
  exact fun c => ⟨h1 c, h2 c⟩
section
variable {P : Program} {w : World} {K : PySem.W.Frag} {mg : Str → Option Value} {base : Heap}
theorem ok_law_is_name (D : DefAt K mg "_law_is_name" s__law_is_name ["_law_value"]) (B : B1 mg) : Cal P w K mg base 1 "_law_is_name" (spIsNm K) := by
  refine D.cal sc__law_is_name (fun vs H Q E h => ?_) (fun f cdv A outer s H vs Q E rm gd h => ?_)
  · obtain ⟨x, rfl, _⟩ := h
    rfl
  · obtain ⟨x, rfl, ov, q⟩ := h
    obtain ⟨t, ty, _, _, k3⟩ := ov.at_.ty
    refine ⟨_, (pss_cons (ps_set (i := 1) sc__law_is_name.nd rfl (Or.inr rfl) pe_str)
    (pss_mid (ps_if (PW.pt (pw_or (pt_not (pt_val (pe_callB call_isi (by rfl) B.g_isinstance (by decide +kernel) (pa_cons (pv 0) (pa_cons (pe_bltn (v := .ty "str") rfl B.g_str (by decide +kernel) rfl) pa_nil))))) (pw_or (pt_not (pt_chain op_le op_le pe_int (pe_callB call_len_str (by rfl) B.g_len (by decide +kernel) (pa_cons (pv 0) pa_nil)) pe_int)) (pw_or1 (pt_cmpR op_notIn_sign (pe_ix ix_str (pv 0) pe_int (fun _ _ => rfl)) (pv 1) rfl)))))
      (pss_one (ps_ret pe_bl))
      pss_nil)
    (pss_one (ps_ret (pe_callB (id := "all") (r := rAll K) (cr_all (by rfl)) (by rfl) B.g_all (by decide +kernel) (pa_cons (pe_lc (own := [("_law_sign", 2)]) (g := (gName 2)) (by rfl) sc__law_is_name.nd (pi_str (pv 0)) (blkOk_by (own := [("_law_sign", 2)]) (N := ["_law_value", "_law_capitals", "_law_sign"]) (sc := defScope s__law_is_name) (by decide +kernel)) (fun _ _ _ _ _ => (pg_name (i := 2) sc__law_is_name.nd rfl (Or.inl rfl))) (fun _ _ _ _ _ => pts_nil) (fun _ _ _ _ _ => (pe_cmpR op_in_sign (pv 2) (pe_op op_add_str (pv 1) pe_str) rfl))) pa_nil)))))), ?_⟩
    walk_at "go"
    refine w_mid (fun σ' H' => σ' = [some x, some (.str capL), none] ∧ H' = H ∧ ∃ (z : Str) (c : Nat) (cs : List Nat), x = .str z ∧ 1 ≤ z.length ∧ z.length ≤ 8 ∧ z.cps.toList = c :: cs ∧ c ∈ capL.cps.toList) ?_ ?_
    · walk_at "go"
      refine ⟨x, .ty "str", .type t, .type "str", _, rfl, .ty _, ty, kit_ty k3, _, rfl, ?_⟩
      cases x with
      | str z =>
        have zl := ov.at_.shrt z rfl
        refine iteF ?_
        walk_at "go"
        refine ⟨z, rfl, Nat.le_trans zl (by decide), ?_⟩
        walk_at "go"
        have no : ¬ (1 ≤ z.length ∧ z.length ≤ 8) → Q (.bl false) H := fun h => by
          have e : isNm (.str z) = false := by
            unfold isNm
            have e1 : hasO nameL (.str z) = false := by
              show (decide (1 ≤ z.length ∧ z.length ≤ 8) && _) = false
              rw [decide_eq_false h, Bool.false_and]
            rw [e1, Bool.false_and]
          have := q H (Same.refl _)
          rw [e] at this
          exact this
        by_cases a1 : 1 ≤ z.length
        · rw [decide_eq_true (show (1 : Int) ≤ (z.length : Int) by omega)]
          refine iteT ?_
          walk_at "go"
          by_cases a2 : z.length ≤ 8
          · rw [decide_eq_true (show (z.length : Int) ≤ 8 by omega)]
            refine iteF ?_
            walk_at "go"
            cases hz : z.cps.toList with
            | nil =>
              exfalso
              have : z.cps.toList.length = z.length := Array.length_toList
              rw [hz] at this
              rw [← this] at a1
              cases a1
            | cons c cs =>
              refine ⟨z, 0, c, rfl, rfl, Nat.le_trans zl (by decide), ?_, ?_⟩
              · rw [hz]
                show atI (c :: cs) ((0 : Nat) : Int) = some c
                exact atI_nat rfl
              · walk_at "go"
                refine ⟨c, capL, rfl, rfl, ?_⟩
                by_cases hc : c ∈ capL.cps.toList
                · rw [decide_eq_true hc]
                  refine ⟨false, rfl, iteF ?_⟩
                  exact ⟨rfl, rfl, z, c, cs, rfl, a1, a2, hz, hc⟩
                · rw [decide_eq_false hc]
                  refine ⟨true, rfl, iteT ?_⟩
                  walk_at "go"
                  have e : isNm (.str z) = false := by
                    unfold isNm
                    dsimp only
                    rw [hz]
                    dsimp only
                    rw [decide_eq_false hc, Bool.and_false]
                  have := q H (Same.refl _)
                  rw [e] at this
                  exact this
          · rw [decide_eq_false (show ¬ (z.length : Int) ≤ 8 by omega)]
            refine iteT ?_
            refine iteT ?_
            walk_at "go"
            exact no fun h => a2 h.2
        · rw [decide_eq_false (show ¬ (1 : Int) ≤ (z.length : Int) by omega)]
          refine iteF ?_
          walk_at "go"
          refine iteT ?_
          refine iteT ?_
          walk_at "go"
          exact no fun h => a1 h.1
      | _ =>
        refine iteT ?_
        refine iteT ?_
        walk_at "go"
        exact q H (Same.refl _)
    · rintro σ' H' ⟨rfl, rfl, z, c, cs, rfl, z1, z8, hz, hc⟩
      unfold iStr
      walk_at "go"
      refine ⟨z, rfl, ?_⟩
      intro D nD
      have zD : Same H' (upd H' D (.lst [])) := fun b u e => by
        rw [upd_ne (ne_of_none e nD)]
        exact e
      have zs : z.cps.size ≤ 8 := z8
      refine lc_it walk_str (fun i H2 => H2 D = some (.lst (((z.cps.toList.take i).map fun c => decide (c ∈ nameL.cps.toList)).map V.bl)) ∧ Same H' H2) ⟨by rw [upd_same]; rfl, zD⟩ (fun _ _ _ _ => trivial) (fun i y H2 H3 hi ⟨hD, s2⟩ hy => ?_) (fun H2 ⟨hD, s2⟩ => ?_)
      · obtain ⟨rfl, b, eb, rfl⟩ := hy
        walk_at "go"
        refine ⟨rfl, ?_⟩
        try unfold tYes
        refine iteT ?_
        walk_at "go"
        refine ⟨capL, "0123456789_", rfl, rfl, by decide +kernel, ?_⟩
        refine ⟨b, capL ++ ("0123456789_" : Str), rfl, rfl, _, hD, by rw [List.length_map, List.length_map, List.length_take]; exact Nat.lt_of_le_of_lt (Nat.min_le_left _ _) (Nat.lt_of_lt_of_le (show i < 9 by omega) (by decide)), ?_, fun b2 o e => ?_⟩
        · rw [upd_same, List.take_add_one, Array.getElem?_toList, eb, List.map_append, List.map_append]
          have e : decide (b ∈ (capL ++ ("0123456789_" : Str)).cps.toList) = decide (b ∈ nameL.cps.toList) := by
            by_cases h : b ∈ nameL.cps.toList
            · rw [decide_eq_true h, decide_eq_true ((name_same b).mpr h)]
            · rw [decide_eq_false h, decide_eq_false fun z => h ((name_same b).mp z)]
          rw [e]
          rfl
        · rw [upd_ne (ne_of_none e nD)]
          exact s2 _ _ e
      · walk_at "go"
        rw [← Array.length_toList, List.take_length] at hD
        refine ⟨D, _, rfl, SqL.of hD, ?_⟩
        have e : isNm (.str z) = ((z.cps.toList.map fun c => decide (c ∈ nameL.cps.toList)).all id) := by
          unfold isNm
          have e1 : hasO nameL (.str z) = z.cps.toList.all (fun c => decide (c ∈ nameL.cps.toList)) := by
            show (decide (1 ≤ z.length ∧ z.length ≤ 8) && _) = _
            rw [decide_eq_true ⟨z1, z8⟩, Bool.true_and]
          rw [e1, List.all_map]
          dsimp only
          rw [hz]
          dsimp only
          rw [decide_eq_true hc, Bool.and_true]
          rfl
        rw [← e]
        exact q H2 s2
end
end Law

set_option Elab.async false
set_option linter.all false
set_option maxRecDepth 100000
set_option maxHeartbeats 4000000
namespace Law
open PySem PySem.Spec PySem.Calls PyProof.Rows L2 KG LamX
local macro_rules | `(tactic| walk_at "1") => `(tactic| first
  | (with_reducible refine w_var rfl ?_) | (with_reducible refine w_c ?_) | (with_reducible refine w_seq ?_) | (with_reducible refine w_asg ?_) | (with_reducible refine w_gname ?_) | (with_reducible refine w_op ?_) | (with_reducible refine w_un ?_)
  | (with_reducible refine w_add ?_) | (with_reducible refine w_sub ?_) | ((with_reducible refine' w_mod ?mo ?_); (case mo => first | assumption | decide | omega)) | (with_reducible refine w_and ?_) | (with_reducible refine w_or ?_) | (with_reducible refine w_xor ?_)
  | (with_reducible refine w_gt ?_) | (with_reducible refine w_lt ?_) | (with_reducible refine w_ge ?_) | (with_reducible refine w_le ?_) | ((with_reducible refine' w_eq ?sc ?_); (case sc => rfl)) | ((with_reducible refine' w_ne ?sc ?_); (case sc => rfl))
  | (with_reducible refine w_ret ?_) | (with_reducible refine w_next ?_) | (with_reducible refine w_ifs ?_) | (with_reducible refine w_ifx ?_) | (with_reducible refine w_test ?_) | (with_reducible refine w_tB ?_) | (with_reducible refine w_bl ?_)
  | ((with_reducible refine' w_ixL ?ixh ?ixa ?_); (case ixh => first | exact SqL.of (by assumption)); (case ixa => first | rfl | skip)) | ((with_reducible refine' w_ixT ?ixh ?ixa ?_); (case ixh => first | exact SqT.of (by assumption)); (case ixa => first | rfl | skip))
  | ((with_reducible refine' w_fld ?_)) | ((with_reducible refine' fld ?fh ?fc ?fn ?fl ?_); (case fh => assumption); (case fc => assumption); (case fn => assumption); (case fl => rfl)) | (with_reducible refine w_sfld ?_)
  | (with_reducible refine Or.inl ⟨_, rfl, ?_⟩) | (with_reducible refine w_gsub ?_) | (with_reducible refine w_andV ?_) | (with_reducible refine w_orV ?_)
  | (with_reducible refine w_nil ?_) | (with_reducible refine w_cons ?_) | (with_reducible refine w_tup ?_) | (with_reducible refine w_lst ?_) | (with_reducible refine w_and2 ?_) | (with_reducible refine w_or2 ?_) | (with_reducible refine w_not ?_) | (with_reducible refine w_cb ?_) | (with_reducible refine w_call ?_) | (with_reducible refine w_par ?_) | (with_reducible refine w_pnil ?_) | (with_reducible refine w_pcons ?_) | (with_reducible refine w_dput ?_) | (with_reducible refine w_dget ?_) | (with_reducible refine w_for ?_) | (with_reducible refine w_itup ?_) | (with_reducible refine w_ilist ?_) | (with_reducible refine w_irng ?_) | (with_reducible refine w_meth ?_) | (with_reducible refine w_make ?_) | (with_reducible refine w_makeK ?_) | (with_reducible refine w_methK ?_) | ((with_reducible refine' mth ?mh ?ml ?_); (case mh => assumption); (case ml => rfl)) | (with_reducible refine w_drop ?_))
local macro_rules | `(tactic| walk_at "go") => `(tactic| ((repeat (walk_at "1")); try dsimp only))
local macro_rules | `(tactic| walk_at "1") => `(tactic| first
  | (with_reducible refine w_notV ?_) | (with_reducible refine w_callK ?_) | (with_reducible refine w_lc ?_) | (with_reducible refine w_chain ?_) | (with_reducible refine w_neg ?_) | ((with_reducible refine' w_shr ?mo ?_); (case mo => first | assumption | omega)))
def spDue (K : PySem.W.Frag) : Sp := fun vs H Q _ => ∃ (t : Addr) (n lo sz r w d rs lk ky cm hd : V), vs = [.ref t] ∧ H t = some (.lst [n, lo, sz, r, w, d, rs, lk, ky, cm, hd]) ∧
  (OdV K H n ∧ OdV K H lo ∧ OdV K H sz ∧ OdV K H r ∧ OdV K H w ∧ OdV K H d ∧ OdV K H rs ∧ OdV K H lk ∧ OdV K H ky ∧ OdV K H cm ∧ OdV K H hd) ∧
  (∀ z : Str, dueF n lo sz r w d rs lk ky cm hd = some (.inl z) → ∀ H', Same H H' → Q (.str z) H') ∧
  (∀ v : V, dueF n lo sz r w d rs lk ky cm hd = some (.inr v) → ∀ (a : Addr) H', H' a = some (.lst [v]) → Same H H' → Q (.ref a) H') ∧
  (dueF n lo sz r w d rs lk ky cm hd = none → ∀ H', Same H H' → Q .non H')
theorem pl_fr {lo sz : V} (h : isPl lo sz = true) : isFr 0 31 lo = true ∧ isFr 1 16 sz = true ∧ ∀ l s, lo = .int l → sz = .int s → l + s ≤ 32 := by
  cases lo <;> first | cases h | skip
  cases sz <;> first | cases h | skip
  have h := of_decide_eq_true h
  refine ⟨?_, ?_, fun l s e1 e2 => ?_⟩
  · show (decide _ && decide _) = true
    rw [decide_eq_true h.1, decide_eq_true h.2.1]
    rfl
  · show (decide _ && decide _) = true
    rw [decide_eq_true h.2.2.1, decide_eq_true h.2.2.2.1]
    rfl
  · cases e1
    cases e2
    exact h.2.2.2.2
theorem fr_int {a b : Int} {x : V} (h : isFr a b x = true) : ∃ i, x = .int i ∧ a ≤ i ∧ i ≤ b := by
  cases x <;> first | cases h | skip
  have h : (decide _ && decide _) = true := h
  rw [Bool.and_eq_true, decide_eq_true_iff, decide_eq_true_iff] at h
  exact ⟨_, rfl, h.1, h.2⟩
theorem w_fr (n : Int) (x : V) : isW n x = isFr 0 (fw n) x := by cases x <;> rfl
theorem nm_ok {z : Str} (h : isNm (.str z) = true) : PyData.strOk z = true := by
  unfold isNm at h
  rw [Bool.and_eq_true] at h
  have h1 : (decide (1 ≤ z.length ∧ z.length ≤ 8) && z.cps.toList.all (fun c => decide (c ∈ nameL.cps.toList))) = true := h.1
  rw [Bool.and_eq_true, List.all_eq_true] at h1
  have hs : ∀ c ∈ nameL.cps.toList, c < 128 := by decide +kernel
  unfold PyData.strOk
  rw [Array.all_eq_true']
  intro b hb
  have := of_decide_eq_true (h1.2 b (Array.mem_toList_iff.mpr hb))
  exact decide_eq_true (Nat.lt_trans (hs b this) (by decide))
theorem bd_on {v : V} (h : bdP v = false) : v = .non ∨ ∃ z, v = .str z ∧ PyData.strOk z = true := by
  by_cases e : v = .non
  · exact .inl e
  · unfold bdP at h
    rw [decide_eq_false e] at h
    have h2 : isNm v = true := by simpa using h
    cases v with
    | str z => exact .inr ⟨z, rfl, nm_ok h2⟩
    | _ => cases h2
def onD : V → PyData | .str z => .str z | _ => .none
theorem on_dp {K : PySem.W.Frag} {H : Hp} {v : V} (h : v = .non ∨ ∃ z, v = .str z ∧ PyData.strOk z = true) : Dp K H v (onD v) ∧ (onD v).canLay0 = true ∧ PyData.depth (onD v) = 0 ∧ PyData.eqv (onD v) .none = decide (v = .non) := by
  rcases h with rfl | ⟨z, rfl, hz⟩
  · exact ⟨.non, by simp [onD, PyData.canLay0], by simp [onD, PyData.depth], by simp [onD, PyData.eqv]⟩
  · exact ⟨.str z, by simpa [onD, PyData.canLay0] using hz, by simp [onD, PyData.depth], by simp [onD, PyData.eqv]⟩
theorem sh_list {ds : List PyData} (h : ∀ d ∈ ds, d.canLay0 = true ∧ d.depth = 0) : SeqAt.shaped (.list ds) = true := by
  have h1 : ∀ ds : List PyData, (∀ d ∈ ds, d.canLay0 = true ∧ d.depth = 0) → PyData.canLayAll0 ds = true ∧ PyData.depthAll ds = 0 := by
    intro ds
    induction ds with
    | nil => exact fun _ => ⟨by simp [PyData.canLayAll0], by simp [PyData.depthAll]⟩
    | cons a as ih =>
      intro h
      obtain ⟨i1, i2⟩ := ih fun d m => h d (.tail _ m)
      obtain ⟨j1, j2⟩ := h a (.head _)
      exact ⟨by simp [PyData.canLayAll0, i1, j1], by simp [PyData.depthAll, i2, j2]⟩
  obtain ⟨a, b⟩ := h1 ds h
  unfold SeqAt.shaped
  rw [Bool.and_eq_true]
  refine ⟨by simp [PyData.canLay0, a], decide_eq_true ?_⟩
  simp only [PyData.depth, b]
  omega
theorem wd_ok : (∀ z ∈ RD, PyData.strOk z = true) ∧ (∀ z ∈ WR, PyData.strOk z = true) ∧ (∀ z ∈ DV, PyData.strOk z = true) := by decide +kernel
theorem str_ld {z : Str} (h : PyData.strOk z = true) : (PyData.str z).canLay0 = true ∧ (PyData.str z).depth = 0 := ⟨by simpa [PyData.canLay0] using h, by simp [PyData.depth]⟩
section
variable {P : Program} {w : World} {K : PySem.W.Frag} {mg : Str → Option Value} {base : Heap}
theorem ok_due (D : DefAt K mg "_law_due" s__law_due ["_law_parts"]) (B : B1 mg) (c_law_is_name : Cal P w K mg base 1 "_law_is_name" (spIsNm K)) (c_law_is_from : Cal P w K mg base 1 "_law_is_from" (spFr K)) : Cal P w K mg base 2 "_law_due" (spDue K) := by
  refine D.cal (k := 1) sc__law_due (fun vs H Q E h => ?_) (fun f cdv A outer s0 H vs Q E rm gd h => ?_)
  · obtain ⟨t, n, lo, sz, r, w, d, rs, lk, ky, cm, hd, rfl, _⟩ := h
    rfl
  · obtain ⟨t, n, lo, sz, r, wr, d, rs, lk, ky, cm, hd, rfl, ht, ⟨on, ol, os, oR, ow, od, ors, olk, oky, ocm, ohd⟩, q1, q2, q⟩ := h
    refine ⟨_, (pss_cons (ps_if (pt_not (pt_val (pc c_law_is_name rm (by decide) gd rfl (pa_cons (pe_ix ix_list (pv 0) pe_int (fun _ _ => rfl)) pa_nil))))
      (pss_one (ps_ret pe_str))
      pss_nil)
    (pss_mid (ps_if (PW.pt (pw_or (pt_not (pt_val (pc c_law_is_from rm (by decide) gd rfl (pa_cons (pe_ix ix_list (pv 0) pe_int (fun _ _ => rfl)) (pa_cons pe_int (pa_cons pe_int pa_nil)))))) (pw_or (pt_not (pt_val (pc c_law_is_from rm (by decide) gd rfl (pa_cons (pe_ix ix_list (pv 0) pe_int (fun _ _ => rfl)) (pa_cons pe_int (pa_cons pe_int pa_nil)))))) (pw_or1 (pt_cmpR op_gt (pe_op op_add (pe_ix ix_list (pv 0) pe_int (fun _ _ => rfl)) (pe_ix ix_list (pv 0) pe_int (fun _ _ => rfl))) pe_int (nomark _))))))
      (pss_one (ps_ret pe_str))
      pss_nil)
    (pss_cons (ps_set (i := 1) sc__law_due.nd rfl (Or.inl rfl) (pe_lst (pa_cons (pe_tup (pa_cons pe_str (pa_cons pe_str pa_nil))) (pa_cons (pe_tup (pa_cons pe_str (pa_cons pe_str (pa_cons pe_str (pa_cons pe_str (pa_cons pe_str (pa_cons pe_str (pa_cons pe_str pa_nil)))))))) (pa_cons (pe_tup (pa_cons pe_str (pa_cons pe_str (pa_cons pe_str (pa_cons pe_str pa_nil))))) pa_nil)))))
    (pss_cons (ps_for PassesOwn.never rfl (pi_range1 rfl B.g_range (pa_cons pe_int pa_nil)) (pg_name (i := 2) sc__law_due.nd rfl (Or.inl rfl))
      (pss_one (ps_if (pt_cmpR (op_notInT rm) (pe_ix ix_list (pv 0) (pe_op op_add pe_int (pv 2)) (fun _ _ => rfl)) (pe_ix ix_list (pv 1) (pv 2) (fun _ _ => rfl)) rfl)
        (pss_one (ps_ret (pe_lst (pa_cons (pe_ix ix_list (pv 0) (pe_op op_add pe_int (pv 2)) (fun _ _ => rfl)) pa_nil))))
        pss_nil)))
    (pss_mid (ps_if (PW.pt (pw_or (pt_not (pt_val (pc c_law_is_from rm (by decide) gd rfl (pa_cons (pe_ix ix_list (pv 0) pe_int (fun _ _ => rfl)) (pa_cons pe_int (pa_cons (pe_op op_sub (pe_op op_shl pe_int (pe_ix ix_list (pv 0) pe_int (fun _ _ => rfl))) pe_int) pa_nil)))))) (pw_or1 (PW.pt (pw_and (pt_cmpR op_eq (pe_ix ix_list (pv 0) pe_int (fun _ _ => rfl)) pe_str (nomark _)) (pw_and1 (pt_cmpR op_ne (pe_ix ix_list (pv 0) pe_int (fun _ _ => rfl)) pe_int (nomark _))))))))
      (pss_one (ps_ret pe_str))
      pss_nil)
    (pss_cons (ps_for PassesOwn.never rfl (pi_range2 rfl B.g_range (pa_cons pe_int (pa_cons pe_int pa_nil))) (pg_name (i := 2) sc__law_due.nd rfl (Or.inl rfl))
      (pss_one (ps_if (PW.pt (pw_and (pt_cmpR op_notN (pe_ix ix_list (pv 0) (pv 2) (fun _ _ => rfl)) pe_non (nomark _)) (pw_and1 (pt_not (pt_val (pc c_law_is_name rm (by decide) gd rfl (pa_cons (pe_ix ix_list (pv 0) (pv 2) (fun _ _ => rfl)) pa_nil)))))))
        (pss_one (ps_ret (pe_ix ix_tup (pe_tup (pa_cons pe_str (pa_cons pe_str (pa_cons pe_str (pa_cons pe_str pa_nil))))) (pe_op op_sub (pv 2) pe_int) (fun _ _ => rfl))))
        pss_nil)))
    (pss_mid (ps_if (PW.pt (pw_and (pt_cmpR op_notN (pe_ix ix_list (pv 0) pe_int (fun _ _ => rfl)) pe_non (nomark _)) (pw_and1 (PW.pt (pw_or (pt_cmpR (op_neD rm.units) (pe_slice sl_list (pv 0) (po_some pe_int) (po_some pe_int)) (pe_lst (pa_cons pe_str (pa_cons pe_str pa_nil))) (nomark _)) (pw_or1 (pt_cmpR op_notIn_seq (pe_ix ix_list (pv 0) pe_int (fun _ _ => rfl)) (pe_tup (pa_cons pe_str (pa_cons pe_str pa_nil))) rfl)))))))
      (pss_one (ps_ret pe_str))
      pss_nil)
    (pss_mid (ps_if (PW.pt (pw_and (pt_cmpR op_notN (pe_ix ix_list (pv 0) pe_int (fun _ _ => rfl)) pe_non (nomark _)) (pw_and1 (pt_cmpR (op_neD rm.units) (pe_slice sl_list (pv 0) (po_some pe_int) (po_some pe_int)) (pe_lst (pa_cons pe_non (pa_cons pe_non (pa_cons pe_non pa_nil)))) (nomark _)))))
      (pss_one (ps_ret pe_str))
      pss_nil)
    (pss_mid (ps_if (PW.pt (pw_and (pt_cmpR op_notN (pe_ix ix_list (pv 0) pe_int (fun _ _ => rfl)) pe_non (nomark _)) (pw_and1 (pt_cmpR (op_neD rm.units) (pe_slice sl_list (pv 0) (po_some pe_int) (po_some pe_int)) (pe_lst (pa_cons pe_str (pa_cons pe_str (pa_cons pe_str pa_nil)))) (nomark _)))))
      (pss_one (ps_ret pe_str))
      pss_nil)
    (pss_one (ps_ret pe_non))))))))))), ?_⟩
    walk_at "go"
    refine ⟨n, rfl, on, fun H1 s1 => ⟨_, rfl, ?_⟩⟩
    cases hn : isNm n with
    | false =>
      refine iteT ?_
      walk_at "go"
      exact q1 _ (by unfold dueF; rw [if_pos hn]) H1 s1
    | true =>
    refine iteF ?_
    have ht1 := s1 _ _ ht
    refine w_mid (fun σ' H' => σ' = [some (.ref t), none, none] ∧ H' = H1 ∧ isPl lo sz = true) ?_ ?_
    · walk_at "go"
      refine ⟨lo, 0, 31, rfl, ol.sm s1, _, rfl, ?_⟩
      have pl : isPl lo sz = false → Q (.str "place") H1 := fun h => q1 "place" (by unfold dueF; rw [if_neg (by rw [hn]; decide), if_pos h]) H1 s1
      cases f1 : isFr 0 31 lo with
      | false =>
        refine iteT ?_
        refine iteT ?_
        walk_at "go"
        exact pl (Bool.eq_false_iff.mpr fun h => by rw [(pl_fr h).1] at f1; cases f1)
      | true =>
      refine iteF ?_
      walk_at "go"
      refine ⟨sz, 1, 16, rfl, os.sm s1, _, rfl, ?_⟩
      cases f2 : isFr 1 16 sz with
      | false =>
        refine iteT ?_
        refine iteT ?_
        walk_at "go"
        exact pl (Bool.eq_false_iff.mpr fun h => by rw [(pl_fr h).2.1] at f2; cases f2)
      | true =>
      refine iteF ?_
      obtain ⟨lw, rfl, l0, l31⟩ := fr_int f1
      obtain ⟨si, rfl, s1', s16⟩ := fr_int f2
      walk_at "go"
      by_cases f3 : lw + si ≤ 32
      · rw [decide_eq_false (show ¬ (32 : Int) < lw + si by omega)]
        refine iteF ?_
        exact ⟨rfl, rfl, decide_eq_true ⟨l0, l31, s1', s16, f3⟩⟩
      · rw [decide_eq_true (show (32 : Int) < lw + si by omega)]
        refine iteT ?_
        walk_at "go"
        exact pl (decide_eq_false fun h => f3 h.2.2.2.2)
    · rintro σ' H' ⟨rfl, rfl, hp⟩
      obtain ⟨lw, si, rfl, rfl, si1, si16⟩ : ∃ lw si, lo = .int lw ∧ sz = .int si ∧ 1 ≤ si ∧ si ≤ 16 := by
        cases lo <;> first | cases hp | skip
        cases sz <;> first | cases hp | skip
        have hp := of_decide_eq_true hp
        exact ⟨_, _, rfl, rfl, hp.2.2.1, hp.2.2.2.1⟩
      walk_at "go"
      refine new (by show 2 ≤ sizeLine; decide) fun t2 H2 n2 h2 s2 => ?_
      walk_at "go"
      refine new (by show 7 ≤ sizeLine; decide) fun t3 H3 n3 h3 s3 => ?_
      walk_at "go"
      refine new (by show 4 ≤ sizeLine; decide) fun t4 H4 n4 h4 s4 => ?_
      walk_at "go"
      refine new (by show 3 ≤ sizeLine; decide) fun t5 H5 n5 h5 s5 => ?_
      have s15 := s2.trans (s3.trans (s4.trans s5))
      walk_at "go"
      refine over_r (by decide) (by decide) (for_range (n := 3) (fun i σ H' => (∃ v2, σ = [some (.ref t), some (.ref t5), v2]) ∧ Same H5 H' ∧ (1 ≤ i → badW RD r = false) ∧ (2 ≤ i → badW WR wr = false) ∧ (3 ≤ i → badW DV d = false)) ⟨⟨none, rfl⟩, Same.refl _, nofun, nofun, nofun⟩ ?_ ?_)
      · rintro i σ H6 hi ⟨⟨v2, rfl⟩, z, b1, b2, b3⟩
        have ht6 := z _ _ (s15 _ _ ht1)
        have h56 := z _ _ h5
        match i, hi with
        | 0, hi =>
          walk_at "go"
          refine od_notInT ((oR.sm s1).sm (s15.trans z)).at_ (zs := RD) (z _ _ (s5 _ _ (s4 _ _ (s3 _ _ h2)))) (by decide +kernel) ?_
          refine ⟨_, rfl, ?_⟩
          cases hb : badW RD r with
          | true =>
            refine iteT ?_
            walk_at "go"
            refine new (by show 1 ≤ sizeLine; decide) fun a H7 n7 h7 s7 => ?_
            exact q2 r (by unfold dueF; rw [if_neg (by rw [hn]; decide), if_neg (by rw [hp]; decide), if_pos hb]) a H7 h7 fun b o e => s7 _ _ (z _ _ (s15 _ _ (s1 _ _ e)))
          | false =>
            refine iteF ?_
            exact ⟨⟨_, rfl⟩, z, fun _ => rfl, fun y => absurd y (by decide), fun y => absurd y (by decide)⟩
        | 1, hi =>
          walk_at "go"
          refine od_notInT ((ow.sm s1).sm (s15.trans z)).at_ (zs := WR) (z _ _ (s5 _ _ (s4 _ _ h3))) (by decide +kernel) ?_
          refine ⟨_, rfl, ?_⟩
          cases hb : badW WR wr with
          | true =>
            refine iteT ?_
            walk_at "go"
            refine new (by show 1 ≤ sizeLine; decide) fun a H7 n7 h7 s7 => ?_
            exact q2 wr (by unfold dueF; rw [if_neg (by rw [hn]; decide), if_neg (by rw [hp]; decide), if_neg (by rw [b1 (by decide)]; decide), if_pos hb]) a H7 h7 fun b o e => s7 _ _ (z _ _ (s15 _ _ (s1 _ _ e)))
          | false =>
            refine iteF ?_
            exact ⟨⟨_, rfl⟩, z, fun _ => b1 (by decide), fun _ => rfl, fun y => absurd y (by decide)⟩
        | 2, hi =>
          walk_at "go"
          refine od_notInT ((od.sm s1).sm (s15.trans z)).at_ (zs := DV) (z _ _ (s5 _ _ h4)) (by decide +kernel) ?_
          refine ⟨_, rfl, ?_⟩
          cases hb : badW DV d with
          | true =>
            refine iteT ?_
            walk_at "go"
            refine new (by show 1 ≤ sizeLine; decide) fun a H7 n7 h7 s7 => ?_
            exact q2 d (by unfold dueF; rw [if_neg (by rw [hn]; decide), if_neg (by rw [hp]; decide), if_neg (by rw [b1 (by decide)]; decide), if_neg (by rw [b2 (by decide)]; decide), if_pos hb]) a H7 h7 fun b o e => s7 _ _ (z _ _ (s15 _ _ (s1 _ _ e)))
          | false =>
            refine iteF ?_
            exact ⟨⟨_, rfl⟩, z, fun _ => b1 (by decide), fun _ => b2 (by decide), fun _ => rfl⟩
      · rintro σ H6 ⟨⟨v2, rfl⟩, z, b1, b2, b3⟩
        have b1 := b1 (show 1 ≤ 3 by decide)
        have b2 := b2 (show 2 ≤ 3 by decide)
        have b3 := b3 (show 3 ≤ 3 by decide)
        obtain ⟨ra, mr, rfl⟩ := badW_str b1
        obtain ⟨wa, mw, rfl⟩ := badW_str b2
        obtain ⟨da, md, rfl⟩ := badW_str b3
        have s6 : Same H H6 := fun b o e => z _ _ (s15 _ _ (s1 _ _ e))
        have ht6 := s6 _ _ ht
        refine w_mid (fun σ' H' => σ' = [some (.ref t), some (.ref t5), v2] ∧ H' = H6 ∧ isRs rs si da = true) ?_ ?_
        · walk_at "go"
          refine w_shl ⟨by omega, by omega, by decide⟩ ?_
          walk_at "go"
          refine ⟨rs, 0, _, rfl, ors.sm s6, _, rfl, ?_⟩
          have rsn : isRs rs si da = false → Q (.str "reset") H6 := fun h => q1 "reset" (by unfold dueF; rw [if_neg (by rw [hn]; decide), if_neg (by rw [hp]; decide), if_neg (by rw [b1]; decide), if_neg (by rw [b2]; decide), if_neg (by rw [b3]; decide), if_pos (show rsV rs (.int si) (.str da) = false from h)]) H6 s6
          rw [show isFr 0 (1 * 2 ^ si.toNat - 1) rs = isW si rs from (w_fr si rs).symm]
          cases hw : isW si rs with
          | false =>
            refine iteT ?_
            refine iteT ?_
            walk_at "go"
            exact rsn (by unfold isRs; rw [hw]; rfl)
          | true =>
          refine iteF ?_
          obtain ⟨v, rfl, v0, v1⟩ := fr_int ((w_fr si rs).symm.trans hw)
          walk_at "go"
          rw [dS]
          by_cases hd : da = ("raise" : Str)
          · rw [decide_eq_true hd]
            refine iteT ?_
            walk_at "go"
            by_cases hv : v = 0
            · rw [hv]
              refine iteF ?_
              refine ⟨rfl, rfl, ?_⟩
              rw [hv] at hw
              unfold isRs
              rw [hw]
              simp
            · rw [decide_eq_false fun z => hv (V.int.inj z)]
              refine iteT ?_
              walk_at "go"
              refine rsn ?_
              unfold isRs
              rw [hw]
              simp [hd, hv]
          · rw [decide_eq_false hd]
            refine iteF ?_
            refine ⟨rfl, rfl, ?_⟩
            unfold isRs
            rw [hw]
            simp [hd]
        · rintro σ' H' ⟨rfl, rfl, hr⟩
          walk_at "go"
          unfold iRng2
          walk_at "go"
          refine ⟨7, 11, rfl, by decide, ?_⟩
          refine for_range (lo := 7) (n := 4) (fun i σ H2 => (∃ v2, σ = [some (.ref t), some (.ref t5), v2]) ∧ Same H' H2 ∧ (1 ≤ i → bdP lk = false) ∧ (2 ≤ i → bdP ky = false) ∧ (3 ≤ i → bdP cm = false) ∧ (4 ≤ i → bdP hd = false)) ⟨⟨_, rfl⟩, Same.refl _, nofun, nofun, nofun, nofun⟩ ?_ ?_
          · rintro i σ H7 hi ⟨⟨v2', rfl⟩, z7, p1, p2, p3, p4⟩
            have s7 : Same H H7 := fun b o e => z7 _ _ (s6 _ _ e)
            have ht7 := s7 _ _ ht
            match i, hi with
            | 0, hi =>
              walk_at "go"
              refine ⟨rfl, ?_⟩
              by_cases hv : lk = .non
              · rw [decide_eq_true hv]
                refine ⟨false, rfl, iteF ?_⟩
                exact ⟨⟨_, rfl⟩, z7, fun _ => by simp [bdP, hv], fun y => absurd y (by decide), fun y => absurd y (by decide), fun y => absurd y (by decide)⟩
              · rw [decide_eq_false hv]
                refine ⟨true, rfl, iteT ?_⟩
                walk_at "go"
                refine ⟨lk, rfl, olk.sm s7, fun H8 s8 => ⟨_, rfl, ?_⟩⟩
                cases hm : isNm lk with
                | false =>
                  refine iteT ?_
                  walk_at "go"
                  refine new (by show 4 ≤ sizeLine; decide) fun a H9 n9 h9 s9 => ?_
                  walk_at "go"
                  have hb : bdP lk = true := by simp [bdP, hv, hm]
                  exact q1 "lock" (by unfold dueF; rw [if_neg (by rw [hn]; decide), if_neg (by rw [hp]; decide), if_neg (by rw [b1]; decide), if_neg (by rw [b2]; decide), if_neg (by rw [b3]; decide), if_neg (by rw [show rsV rs (.int si) (.str da) = true from hr]; decide), if_pos hb]) H9 fun b o e => s9 _ _ (s8 _ _ (s7 _ _ e))
                | true =>
                  refine iteF ?_
                  exact ⟨⟨_, rfl⟩, z7.trans s8, fun _ => by simp [bdP, hm], fun y => absurd y (by decide), fun y => absurd y (by decide), fun y => absurd y (by decide)⟩
            | 1, hi =>
              walk_at "go"
              refine ⟨rfl, ?_⟩
              by_cases hv : ky = .non
              · rw [decide_eq_true hv]
                refine ⟨false, rfl, iteF ?_⟩
                exact ⟨⟨_, rfl⟩, z7, fun _ => p1 (by decide), fun _ => by simp [bdP, hv], fun y => absurd y (by decide), fun y => absurd y (by decide)⟩
              · rw [decide_eq_false hv]
                refine ⟨true, rfl, iteT ?_⟩
                walk_at "go"
                refine ⟨ky, rfl, oky.sm s7, fun H8 s8 => ⟨_, rfl, ?_⟩⟩
                cases hm : isNm ky with
                | false =>
                  refine iteT ?_
                  walk_at "go"
                  refine new (by show 4 ≤ sizeLine; decide) fun a H9 n9 h9 s9 => ?_
                  walk_at "go"
                  have hb : bdP ky = true := by simp [bdP, hv, hm]
                  exact q1 "key" (by unfold dueF; rw [if_neg (by rw [hn]; decide), if_neg (by rw [hp]; decide), if_neg (by rw [b1]; decide), if_neg (by rw [b2]; decide), if_neg (by rw [b3]; decide), if_neg (by rw [show rsV rs (.int si) (.str da) = true from hr]; decide), if_neg (by rw [p1 (by decide)]; decide), if_pos hb]) H9 fun b o e => s9 _ _ (s8 _ _ (s7 _ _ e))
                | true =>
                  refine iteF ?_
                  exact ⟨⟨_, rfl⟩, z7.trans s8, fun _ => p1 (by decide), fun _ => by simp [bdP, hm], fun y => absurd y (by decide), fun y => absurd y (by decide)⟩
            | 2, hi =>
              walk_at "go"
              refine ⟨rfl, ?_⟩
              by_cases hv : cm = .non
              · rw [decide_eq_true hv]
                refine ⟨false, rfl, iteF ?_⟩
                exact ⟨⟨_, rfl⟩, z7, fun _ => p1 (by decide), fun _ => p2 (by decide), fun _ => by simp [bdP, hv], fun y => absurd y (by decide)⟩
              · rw [decide_eq_false hv]
                refine ⟨true, rfl, iteT ?_⟩
                walk_at "go"
                refine ⟨cm, rfl, ocm.sm s7, fun H8 s8 => ⟨_, rfl, ?_⟩⟩
                cases hm : isNm cm with
                | false =>
                  refine iteT ?_
                  walk_at "go"
                  refine new (by show 4 ≤ sizeLine; decide) fun a H9 n9 h9 s9 => ?_
                  walk_at "go"
                  have hb : bdP cm = true := by simp [bdP, hv, hm]
                  exact q1 "commit" (by unfold dueF; rw [if_neg (by rw [hn]; decide), if_neg (by rw [hp]; decide), if_neg (by rw [b1]; decide), if_neg (by rw [b2]; decide), if_neg (by rw [b3]; decide), if_neg (by rw [show rsV rs (.int si) (.str da) = true from hr]; decide), if_neg (by rw [p1 (by decide)]; decide), if_neg (by rw [p2 (by decide)]; decide), if_pos hb]) H9 fun b o e => s9 _ _ (s8 _ _ (s7 _ _ e))
                | true =>
                  refine iteF ?_
                  exact ⟨⟨_, rfl⟩, z7.trans s8, fun _ => p1 (by decide), fun _ => p2 (by decide), fun _ => by simp [bdP, hm], fun y => absurd y (by decide)⟩
            | 3, hi =>
              walk_at "go"
              refine ⟨rfl, ?_⟩
              by_cases hv : hd = .non
              · rw [decide_eq_true hv]
                refine ⟨false, rfl, iteF ?_⟩
                exact ⟨⟨_, rfl⟩, z7, fun _ => p1 (by decide), fun _ => p2 (by decide), fun _ => p3 (by decide), fun _ => by simp [bdP, hv]⟩
              · rw [decide_eq_false hv]
                refine ⟨true, rfl, iteT ?_⟩
                walk_at "go"
                refine ⟨hd, rfl, ohd.sm s7, fun H8 s8 => ⟨_, rfl, ?_⟩⟩
                cases hm : isNm hd with
                | false =>
                  refine iteT ?_
                  walk_at "go"
                  refine new (by show 4 ≤ sizeLine; decide) fun a H9 n9 h9 s9 => ?_
                  walk_at "go"
                  have hb : bdP hd = true := by simp [bdP, hv, hm]
                  exact q1 "held" (by unfold dueF; rw [if_neg (by rw [hn]; decide), if_neg (by rw [hp]; decide), if_neg (by rw [b1]; decide), if_neg (by rw [b2]; decide), if_neg (by rw [b3]; decide), if_neg (by rw [show rsV rs (.int si) (.str da) = true from hr]; decide), if_neg (by rw [p1 (by decide)]; decide), if_neg (by rw [p2 (by decide)]; decide), if_neg (by rw [p3 (by decide)]; decide), if_pos hb]) H9 fun b o e => s9 _ _ (s8 _ _ (s7 _ _ e))
                | true =>
                  refine iteF ?_
                  exact ⟨⟨_, rfl⟩, z7.trans s8, fun _ => p1 (by decide), fun _ => p2 (by decide), fun _ => p3 (by decide), fun _ => by simp [bdP, hm]⟩
          · rintro σ H7 ⟨⟨v2', rfl⟩, z7, p1, p2, p3, p4⟩
            have p1 := p1 (show 1 ≤ 4 by decide)
            have p2 := p2 (show 2 ≤ 4 by decide)
            have p3 := p3 (show 3 ≤ 4 by decide)
            have p4 := p4 (show 4 ≤ 4 by decide)
            have s7 : Same H H7 := fun b o e => z7 _ _ (s6 _ _ e)
            have ht7 := s7 _ _ ht
            have due := due_end (n := n) hn hp b1 b2 b3 (show rsV rs (.int si) (.str da) = true from hr) p1 p2 p3 p4
            refine w_mid (fun σ' H2 => σ' = [some (.ref t), some (.ref t5), v2'] ∧ Same H7 H2 ∧ (hd = .non ∨ (ra = "keep" ∧ wa = "none" ∧ (da = "still" ∨ da = "drift")))) ?_ ?_
            · walk_at "go"
              refine ⟨rfl, ?_⟩
              by_cases hv : hd = .non
              · rw [decide_eq_true hv]
                refine ⟨false, rfl, iteF ?_⟩
                exact ⟨rfl, Same.refl _, .inl hv⟩
              · rw [decide_eq_false hv]
                refine ⟨true, rfl, iteT ?_⟩
                walk_at "go"
                have hld : hd = .non → False := hv
                have hel : ∀ H2, Same H7 H2 → mbV lk ky cm (.str ra) (.str wa) (.str da) = false → Q (.str "held") H2 := fun H2 s2 h => q1 "held" (by rw [due, decide_eq_false hv, h]; rfl) H2 fun b o e => s2 _ _ (s7 _ _ e)
                unfold tSl
                walk_at "go"
                unfold tPart
                walk_at "go"
                refine ⟨3, rfl, ?_⟩
                refine ⟨5, rfl, ?_⟩
                refine ⟨t, _, rfl, SqL.of ht7, fun pL nL => ?_⟩
                have sL : Same H7 (upd H7 pL (.lst [.str ra, .str wa])) := fun b o e => by
                  rw [upd_ne (ne_of_none e nL)]
                  exact e
                have hL : upd H7 pL (.lst [.str ra, .str wa]) pL = some (.lst [.str ra, .str wa]) := upd_same
                show tLst _ _ (upd H7 pL (.lst [.str ra, .str wa])) _
                generalize upd H7 pL (.lst [.str ra, .str wa]) = HL at sL hL
                walk_at "go"
                refine new (by show 2 ≤ sizeLine; decide) fun pN HN nN hN sN => ?_
                refine ⟨.list [.str ra, .str wa], .list [.str "keep", .str "none"], .lst (SqL.of (sN _ _ hL)) (.cons (.str _) (.cons (.str _) .nil)), .lst (SqL.of hN) (.cons (.str _) (.cons (.str _) .nil)), sh_list (by simp [str_ld (wd_ok.1 _ mr), str_ld (wd_ok.2.1 _ mw)]), by decide +kernel, ?_⟩
                have sHN : Same H7 HN := fun b o e => sN _ _ (sL _ _ e)
                by_cases e1 : ra = ("keep" : Str)
                · by_cases e2 : wa = ("none" : Str)
                  · have ev : PyData.eqv (.list [.str ra, .str wa]) (.list [.str "keep", .str "none"]) = true := by
                      rw [e1, e2]
                      decide +kernel
                    rw [ev]
                    refine ⟨false, rfl, iteF ?_⟩
                    have htN := sHN _ _ ht7
                    walk_at "go"
                    refine new (by show 2 ≤ sizeLine; decide) fun pM HM nM hM sM => ?_
                    refine w_in (.inr (SqT.of hM)) rfl rfl ?_
                    rw [if_pos rfl]
                    have iv : inV (.str da) [.str "still", .str "drift"] = (decide (da = "still") || decide (da = "drift")) := by
                      unfold inV
                      simp only [List.any_cons, List.any_nil, Bool.or_false]
                      congr 1 <;> (show decide (_ = _) = _; rw [Bool.eq_iff_iff, decide_eq_true_iff, decide_eq_true_iff]; exact eq_comm)
                    rw [iv]
                    by_cases e3 : da = ("still" : Str) ∨ da = ("drift" : Str)
                    · have : (decide (da = ("still" : Str)) || decide (da = ("drift" : Str))) = true := by rcases e3 with e | e <;> simp [e]
                      rw [this]
                      refine ⟨false, rfl, iteF ?_⟩
                      exact ⟨rfl, fun b o e => sM _ _ (sHN _ _ e), .inr ⟨e1, e2, e3⟩⟩
                    · have : (decide (da = ("still" : Str)) || decide (da = ("drift" : Str))) = false := by simpa using e3
                      rw [this]
                      refine ⟨true, rfl, iteT ?_⟩
                      walk_at "go"
                      exact hel HM (fun b o e => sM _ _ (sHN _ _ e)) (by show mbh lk ky cm ra wa da = false; unfold mbh; rw [this]; simp)
                  · have ev : PyData.eqv (.list [.str ra, .str wa]) (.list [.str "keep", .str "none"]) = false := by simp [PyData.eqv, PyData.eqvAll, e2]
                    rw [ev]
                    refine ⟨true, rfl, iteT ?_⟩
                    refine iteT ?_
                    walk_at "go"
                    exact hel HN sHN (by show mbh lk ky cm ra wa da = false; simp [mbh, e2])
                · have ev : PyData.eqv (.list [.str ra, .str wa]) (.list [.str "keep", .str "none"]) = false := by simp [PyData.eqv, PyData.eqvAll, e1]
                  rw [ev]
                  refine ⟨true, rfl, iteT ?_⟩
                  refine iteT ?_
                  walk_at "go"
                  exact hel HN sHN (by show mbh lk ky cm ra wa da = false; simp [mbh, e1])
            · rintro σ' H8 ⟨rfl, z8, m1⟩
              have s8 : Same H H8 := fun b o e => z8 _ _ (s7 _ _ e)
              have ht8 := s8 _ _ ht
              refine w_mid (fun σ' H2 => σ' = [some (.ref t), some (.ref t5), v2'] ∧ Same H8 H2 ∧ (hd = .non ∨ mbh lk ky cm ra wa da = true)) ?_ ?_
              · walk_at "go"
                refine ⟨rfl, ?_⟩
                by_cases hv : hd = .non
                · rw [decide_eq_true hv]
                  refine ⟨false, rfl, iteF ?_⟩
                  exact ⟨rfl, Same.refl _, .inl hv⟩
                · rw [decide_eq_false hv]
                  refine ⟨true, rfl, iteT ?_⟩
                  walk_at "go"
                  unfold tSl
                  walk_at "go"
                  unfold tPart
                  walk_at "go"
                  refine ⟨7, rfl, ?_⟩
                  refine ⟨10, rfl, ?_⟩
                  refine ⟨t, _, rfl, SqL.of ht8, fun pL nL => ?_⟩
                  have sL : Same H8 (upd H8 pL (.lst [lk, ky, cm])) := fun b o e => by
                    rw [upd_ne (ne_of_none e nL)]
                    exact e
                  have hL : upd H8 pL (.lst [lk, ky, cm]) pL = some (.lst [lk, ky, cm]) := upd_same
                  show tLst _ _ (upd H8 pL (.lst [lk, ky, cm])) _
                  generalize upd H8 pL (.lst [lk, ky, cm]) = HL at sL hL
                  walk_at "go"
                  refine new (by show 3 ≤ sizeLine; decide) fun pN HN nN hN sN => ?_
                  obtain ⟨d1, c1, z1, v1⟩ := on_dp (K := K) (H := HN) (bd_on p1)
                  obtain ⟨d2, c2, z2, v2⟩ := on_dp (K := K) (H := HN) (bd_on p2)
                  obtain ⟨d3, c3, z3, v3⟩ := on_dp (K := K) (H := HN) (bd_on p3)
                  refine ⟨.list [onD lk, onD ky, onD cm], .list [.none, .none, .none], .lst (SqL.of (sN _ _ hL)) (.cons d1 (.cons d2 (.cons d3 .nil))), .lst (SqL.of hN) (.cons .non (.cons .non (.cons .non .nil))), sh_list (by simp [c1, c2, c3, z1, z2, z3]), by decide +kernel, ?_⟩
                  have ev : PyData.eqv (.list [onD lk, onD ky, onD cm]) (.list [.none, .none, .none]) = (decide (lk = .non) && (decide (ky = .non) && decide (cm = .non))) := by
                    simp only [PyData.eqv, PyData.eqvAll, v1, v2, v3, Bool.and_true]
                  rw [ev]
                  have sHN : Same H8 HN := fun b o e => sN _ _ (sL _ _ e)
                  cases hm : (decide (lk = V.non) && (decide (ky = V.non) && decide (cm = V.non))) with
                  | true =>
                    refine ⟨false, rfl, iteF ?_⟩
                    refine ⟨rfl, sHN, .inr ?_⟩
                    rcases m1 with e | ⟨e1, e2, e3⟩
                    · exact (hv e).elim
                    · simp only [Bool.and_eq_true, decide_eq_true_iff] at hm
                      unfold mbh
                      rcases e3 with e3 | e3 <;> simp [hm.1, hm.2.1, hm.2.2, e1, e2, e3]
                  | false =>
                    refine ⟨true, rfl, iteT ?_⟩
                    walk_at "go"
                    refine q1 "held" ?_ HN fun b o e => sHN _ _ (s8 _ _ e)
                    have mf : mbV lk ky cm (.str ra) (.str wa) (.str da) = false := by
                      show mbh lk ky cm ra wa da = false
                      unfold mbh
                      rw [← Bool.and_assoc, ← Bool.and_assoc, Bool.and_assoc (decide (lk = V.non)), hm, Bool.false_and]
                    rw [due, decide_eq_false hv, mf]
                    rfl
              · rintro σ' H9 ⟨rfl, z9, m2⟩
                have s9 : Same H H9 := fun b o e => z9 _ _ (s8 _ _ e)
                have ht9 := s9 _ _ ht
                have due2 : dueF n (.int lw) (.int si) (.str ra) (.str wa) (.str da) rs lk ky cm hd = if (!decide (cm = .non) && !plainV (.str ra) (.str wa) (.str da)) = true then some (.inl "commit") else none := by
                  rw [due, if_neg]
                  rcases m2 with e | e
                  · rw [decide_eq_true e]
                    simp
                  · rw [show mbV lk ky cm (.str ra) (.str wa) (.str da) = true from e]
                    simp
                refine w_mid (fun σ' H2 => σ' = [some (.ref t), some (.ref t5), v2'] ∧ Same H9 H2 ∧ (!decide (cm = .non) && !plainV (.str ra) (.str wa) (.str da)) = false) ?_ ?_
                · walk_at "go"
                  refine ⟨rfl, ?_⟩
                  by_cases hv : cm = .non
                  · rw [decide_eq_true hv]
                    refine ⟨false, rfl, iteF ?_⟩
                    exact ⟨rfl, Same.refl _, rfl⟩
                  · rw [decide_eq_false hv]
                    refine ⟨true, rfl, iteT ?_⟩
                    walk_at "go"
                    unfold tSl
                    walk_at "go"
                    unfold tPart
                    walk_at "go"
                    refine ⟨3, rfl, ?_⟩
                    refine ⟨6, rfl, ?_⟩
                    refine ⟨t, _, rfl, SqL.of ht9, fun pL nL => ?_⟩
                    have sL : Same H9 (upd H9 pL (.lst [.str ra, .str wa, .str da])) := fun b o e => by
                      rw [upd_ne (ne_of_none e nL)]
                      exact e
                    have hL : upd H9 pL (.lst [.str ra, .str wa, .str da]) pL = some (.lst [.str ra, .str wa, .str da]) := upd_same
                    show tLst _ _ (upd H9 pL (.lst [.str ra, .str wa, .str da])) _
                    generalize upd H9 pL (.lst [.str ra, .str wa, .str da]) = HL at sL hL
                    walk_at "go"
                    refine new (by show 3 ≤ sizeLine; decide) fun pN HN nN hN sN => ?_
                    refine ⟨.list [.str ra, .str wa, .str da], .list [.str "keep", .str "store", .str "still"], .lst (SqL.of (sN _ _ hL)) (.cons (.str _) (.cons (.str _) (.cons (.str _) .nil))), .lst (SqL.of hN) (.cons (.str _) (.cons (.str _) (.cons (.str _) .nil))), sh_list (by simp [str_ld (wd_ok.1 _ mr), str_ld (wd_ok.2.1 _ mw), str_ld (wd_ok.2.2 _ md)]), by decide +kernel, ?_⟩
                    have ev : PyData.eqv (.list [.str ra, .str wa, .str da]) (.list [.str "keep", .str "store", .str "still"]) = plainV (.str ra) (.str wa) (.str da) := by
                      unfold plainV
                      rw [dS, dS, dS]
                      by_cases e1 : ra = ("keep" : Str)
                      · by_cases e2 : wa = ("store" : Str)
                        · by_cases e3 : da = ("still" : Str)
                          · rw [e1, e2, e3]
                            decide +kernel
                          · simp [PyData.eqv, PyData.eqvAll, e3]
                        · simp [PyData.eqv, PyData.eqvAll, e2]
                      · simp [PyData.eqv, PyData.eqvAll, e1]
                    rw [ev]
                    have sHN : Same H9 HN := fun b o e => sN _ _ (sL _ _ e)
                    cases hm : plainV (.str ra) (.str wa) (.str da) with
                    | true =>
                      refine ⟨false, rfl, iteF ?_⟩
                      exact ⟨rfl, sHN, rfl⟩
                    | false =>
                      refine ⟨true, rfl, iteT ?_⟩
                      walk_at "go"
                      refine q1 "commit" ?_ HN fun b o e => sHN _ _ (s9 _ _ e)
                      rw [due2, decide_eq_false hv, hm]
                      rfl
                · rintro σ' H10 ⟨rfl, z10, m3⟩
                  walk_at "go"
                  exact q (by rw [due2, m3]; rfl) H10 fun b o e => z10 _ _ (s9 _ _ e)
end
end Law

set_option Elab.async false
set_option linter.all false
set_option maxRecDepth 100000
set_option maxHeartbeats 4000000
namespace Law
open PySem PySem.Spec PySem.Calls PyProof.Rows L2 KG LamX
local macro_rules | `(tactic| walk_at "1") => `(tactic| first
  | (with_reducible refine w_var rfl ?_) | (with_reducible refine w_c ?_) | (with_reducible refine w_seq ?_) | (with_reducible refine w_asg ?_) | (with_reducible refine w_gname ?_) | (with_reducible refine w_op ?_) | (with_reducible refine w_un ?_)
  | (with_reducible refine w_add ?_) | (with_reducible refine w_sub ?_) | ((with_reducible refine' w_mod ?mo ?_); (case mo => first | assumption | decide | omega)) | (with_reducible refine w_and ?_) | (with_reducible refine w_or ?_) | (with_reducible refine w_xor ?_)
  | (with_reducible refine w_gt ?_) | (with_reducible refine w_lt ?_) | (with_reducible refine w_ge ?_) | (with_reducible refine w_le ?_) | ((with_reducible refine' w_eq ?sc ?_); (case sc => rfl)) | ((with_reducible refine' w_ne ?sc ?_); (case sc => rfl))
  | (with_reducible refine w_ret ?_) | (with_reducible refine w_next ?_) | (with_reducible refine w_ifs ?_) | (with_reducible refine w_ifx ?_) | (with_reducible refine w_test ?_) | (with_reducible refine w_tB ?_) | (with_reducible refine w_bl ?_)
  | ((with_reducible refine' w_ixL ?ixh ?ixa ?_); (case ixh => first | exact SqL.of (by assumption)); (case ixa => first | rfl | skip)) | ((with_reducible refine' w_ixT ?ixh ?ixa ?_); (case ixh => first | exact SqT.of (by assumption)); (case ixa => first | rfl | skip))
  | ((with_reducible refine' w_fld ?_)) | ((with_reducible refine' fld ?fh ?fc ?fn ?fl ?_); (case fh => assumption); (case fc => assumption); (case fn => assumption); (case fl => rfl)) | (with_reducible refine w_sfld ?_)
  | (with_reducible refine Or.inl ⟨_, rfl, ?_⟩) | (with_reducible refine w_gsub ?_) | (with_reducible refine w_andV ?_) | (with_reducible refine w_orV ?_)
  | (with_reducible refine w_nil ?_) | (with_reducible refine w_cons ?_) | (with_reducible refine w_tup ?_) | (with_reducible refine w_lst ?_) | (with_reducible refine w_and2 ?_) | (with_reducible refine w_or2 ?_) | (with_reducible refine w_not ?_) | (with_reducible refine w_cb ?_) | (with_reducible refine w_call ?_) | (with_reducible refine w_par ?_) | (with_reducible refine w_pnil ?_) | (with_reducible refine w_pcons ?_) | (with_reducible refine w_dput ?_) | (with_reducible refine w_dget ?_) | (with_reducible refine w_for ?_) | (with_reducible refine w_itup ?_) | (with_reducible refine w_ilist ?_) | (with_reducible refine w_irng ?_) | (with_reducible refine w_meth ?_) | (with_reducible refine w_make ?_) | (with_reducible refine w_makeK ?_) | (with_reducible refine w_methK ?_) | ((with_reducible refine' mth ?mh ?ml ?_); (case mh => assumption); (case ml => rfl)) | (with_reducible refine w_drop ?_))
local macro_rules | `(tactic| walk_at "go") => `(tactic| ((repeat (walk_at "1")); try dsimp only))
local macro_rules | `(tactic| walk_at "1") => `(tactic| first
  | (with_reducible refine w_notV ?_) | (with_reducible refine w_callK ?_) | (with_reducible refine w_lc ?_) | (with_reducible refine w_chain ?_) | (with_reducible refine w_neg ?_) | ((with_reducible refine' w_shr ?mo ?_); (case mo => first | assumption | omega)))
def spAttr (C CF : Addr) : Sp := fun vs H Q _ => ∃ (f : Addr) (n lo sz : V) (r w d : Str) (rs lk ky cm hd : V), vs = [.ref f] ∧ FieldAt C CF H f n lo sz r w d rs lk ky cm hd ∧ ∀ (a : Addr) H', H a = none → H' a = some (.lst [n, lo, sz, .str r, .str w, .str d, rs, lk, ky, cm, hd]) → Same H H' → Q (.ref a) H'
def spMake (K : PySem.W.Frag) (C CF : Addr) : Sp := fun vs H Q _ => ∃ (t : Addr) (n lo sz : V) (r w d : Str) (rs lk ky cm hd : V), vs = [.ref t] ∧ H t = some (.lst [n, lo, sz, .str r, .str w, .str d, rs, lk, ky, cm, hd]) ∧
  (OdV K H n ∧ OdV K H lo ∧ OdV K H sz ∧ OdV K H (.str r) ∧ OdV K H (.str w) ∧ OdV K H (.str d) ∧ OdV K H rs ∧ OdV K H lk ∧ OdV K H ky ∧ OdV K H cm ∧ OdV K H hd) ∧ dueF n lo sz (.str r) (.str w) (.str d) rs lk ky cm hd = none ∧
  ∀ (f : Addr) H', H f = none → FieldAt C CF H' f n lo sz r w d rs lk ky cm hd → Same H H' → Q (.ref f) H'
section
variable {P : Program} {w : World} {K : PySem.W.Frag} {mg : Str → Option Value} {base : Heap} {C CF cK cF : Addr} {mc : Value}
theorem ok_attr (D : DefAt K mg "_law_attributes" s__law_attributes ["_law_made"]) (TF : F19 K mg CF) : Cal P w K mg base 1 "_law_attributes" (spAttr C CF) := by
  refine D.cal sc__law_attributes (fun vs H Q E h => ?_) (fun f cdv A outer s0 H vs Q E rm gd h => ?_)
  · obtain ⟨f, n, lo, sz, r, w, d, rs, lk, ky, cm, hd, rfl, _⟩ := h
    rfl
  · obtain ⟨g, n, lo, sz, r, wr, d, rs, lk, ky, cm, hd, rfl, ⟨dx, k, hf, hk⟩, q⟩ := h
    have cl := TF.cl
    have n2 := TF.n2
    have n3 := TF.n3
    have n4 := TF.n4
    have n5 := TF.n5
    have n6 := TF.n6
    have n7 := TF.n7
    have n8 := TF.n8
    have n9 := TF.n9
    have n10 := TF.n10
    have n11 := TF.n11
    have n12 := TF.n12
    refine ⟨_, (pss_one (ps_ret (pe_lst (pa_cons (pe_fld (pv 0) rfl) (pa_cons (pe_fld (pv 0) rfl) (pa_cons (pe_fld (pv 0) rfl) (pa_cons (pe_fld (pv 0) rfl) (pa_cons (pe_fld (pv 0) rfl) (pa_cons (pe_fld (pv 0) rfl) (pa_cons (pe_fld (pv 0) rfl) (pa_cons (pe_fld (pv 0) rfl) (pa_cons (pe_fld (pv 0) rfl) (pa_cons (pe_fld (pv 0) rfl) (pa_cons (pe_fld (pv 0) rfl) pa_nil)))))))))))))), ?_⟩
    walk_at "go"
    refine new (by show 11 ≤ sizeLine; decide) fun a H1 na ha s1 => ?_
    exact q a H1 na ha s1
theorem ok_make {fF : Addr} {fdF : FuncData} (D : DefAt K mg "_law_make" s__law_make ["_law_parts"]) (TF : F19 K mg CF) (MKF : Mk K CF fF) (GIF : Gd P w K mg base (L2.CX P w) 5 fF fdF ["self", "name", "low", "size", "reading", "writing", "device", "reset", "lock", "key", "commit", "held"] (spIF K C CF cK cF))
    (kbF : KBn K fdF ["self", "name", "low", "size", "reading", "writing", "device", "reset", "lock", "key", "commit", "held"] 1 ["held", "commit", "key", "lock", "reset", "device", "writing", "reading", "size", "low", "name"] (fun us ws => us ++ ws.reverse) (fun us ws => us ++ ws.reverse)) : Cal P w K mg base 7 "_law_make" (spMake K C CF) := by
  refine D.cal (k := 6) sc__law_make (fun vs H Q E h => ?_) (fun f cdv A outer s0 H vs Q E rm gd h => ?_)
  · obtain ⟨f, n, lo, sz, r, w, d, rs, lk, ky, cm, hd, rfl, _⟩ := h
    rfl
  · obtain ⟨t, n, lo, sz, r, wr, d, rs, lk, ky, cm, hd, rfl, ht, ⟨on, ol, os, oR, ow, od, ors, olk, oky, ocm, ohd⟩, due, q⟩ := h
    refine ⟨_, (pss_one (ps_ret (pe_gmakeK (E := fun _ _ _ => False) MKF GIF (rm.mono (by decide)) gd rfl TF.g kbF pass_no (pk_cons (pe_ix ix_list (pv 0) pe_int (fun _ _ => rfl)) (pk_cons (pe_ix ix_list (pv 0) pe_int (fun _ _ => rfl)) (pk_cons (pe_ix ix_list (pv 0) pe_int (fun _ _ => rfl)) (pk_cons (pe_ix ix_list (pv 0) pe_int (fun _ _ => rfl)) (pk_cons (pe_ix ix_list (pv 0) pe_int (fun _ _ => rfl)) (pk_cons (pe_ix ix_list (pv 0) pe_int (fun _ _ => rfl)) (pk_cons (pe_ix ix_list (pv 0) pe_int (fun _ _ => rfl)) (pk_cons (pe_ix ix_list (pv 0) pe_int (fun _ _ => rfl)) (pk_cons (pe_ix ix_list (pv 0) pe_int (fun _ _ => rfl)) (pk_cons (pe_ix ix_list (pv 0) pe_int (fun _ _ => rfl)) (pk_cons (pe_ix ix_list (pv 0) pe_int (fun _ _ => rfl)) pk_nil)))))))))))))), ?_⟩
    walk_at "go"
    refine ⟨rfl, ?_⟩
    refine make fun x dx H1 n1 h1 s1 => ?_
    refine ⟨x, dx, n, lo, sz, .str r, .str wr, .str d, rs, lk, ky, cm, hd, rfl, h1, ⟨on.sm s1, ol.sm s1, os.sm s1, oR.sm s1, ow.sm s1, od.sm s1, ors.sm s1, olk.sm s1, oky.sm s1, ocm.sm s1, ohd.sm s1⟩, ?_, ?_, ?_⟩
    · intro z e
      rw [due] at e
      cases e
    · intro z e
      rw [due] at e
      cases e
    intro _ k a b c H' e1 e2 e3 hx hk kp
    refine ⟨rfl, ?_⟩
    cases e1
    cases e2
    cases e3
    exact q x H' n1 ⟨dx, k, hx, hk⟩ fun b o e => kp b o (s1 b o e) (ne_of_none e n1)
end
end Law

set_option Elab.async false
set_option linter.all false
set_option maxRecDepth 100000
set_option maxHeartbeats 1000000
/-! KW4: a new instance made by places and keywords. -/
namespace KG
open PySem PySem.Spec PySem.Calls PyProof.Rows L2
section
variable {X : Cx} {CX : CXT} {k n : Nat} {C f : Addr} {fd : FuncData} {ps ks : List Str} {sp : Sp} {E : XK} {e : Expr} {es : List Expr} {kws : List Keyword} {x : Str} {p pos : Pos} {t tk : TA} {gg : List Value → List Value → List Value} {gV : List V → List V → List V}
/-- C(e, .., k = v, ..) -/
def tMakeM (C : Addr) (n j : Nat) (sp : Sp) (gV : List V → List V → List V) (E : XK) (t tk : TA) : TE := fun σ H Q => t σ H fun vs H1 => tk σ H1 fun zs H2 => vs.length = n ∧ zs.length = j ∧ Make C sp (fun y => gV (y :: vs) zs) E H2 Q
theorem pe_gmakeM (M : Mk X.K C f) (F : Gd X.prog X.w X.K X.mg X.base CX k f fd ps sp) (rm : Room (k + 1) X.A) (gd : X.A.guards = some []) (gl : Gl X x) (at_ : X.mg x = some (.ref C)) (hb : KBn X.K fd ps (n + 1) ks gg gV) (hx : Passes CX X E)
    (ha : PA X (e :: es) t) (hkw : PK X kws tk)
    (hst : starEach (e :: es) X.env = (false, eval e X.env) :: starEach es X.env := by rfl)
    (hall : (backToKw pos (keywordEach kws X.env)).all (·.1.isSome) = true := by rfl) (hks : (backToKw pos (keywordEach kws X.env)).filterMap (·.1) = ks := by rfl)
    (hpl : ((backTo pos (starEach (e :: es) X.env)).any (·.1) || (backToKw pos (keywordEach kws X.env)).any (·.1.isNone)) = false := by rfl)
    (hdb : (x == ("__debug__" : Str)) = false := by decide) :
    PE X (.Call (.Name x p) (e :: es) kws pos) (tMakeM C n ks.length sp gV E t tk) := by
  refine ⟨fun pins s σ H Q I h => wpAny_Call_Name_kw (ld_glob I gl at_ (PySem.W.callWith_KW (first := []) (h₀ := X.base) I.ok.mod.kin M.kp hall (thn (ha.run pos pins s σ H _ I h) fun us s1 z1 => ?_) hpl hst) hdb)⟩
  obtain ⟨vs, H1, J1, rv, q1⟩ := z1
  refine thn (hkw.run pos pins s1 σ H1 _ J1 q1) fun ws s2 z2 => ?_
  obtain ⟨zs, H2, J, rz, lv, lz, q2⟩ := z2
  refine ⟨J.kIn, ?_⟩
  rw [hks]
  exact run_gmake (us := us) (fun y => gg (y :: us) ws) (fun y => gV (y :: vs) zs) M F rm gd (fun s y KX => hb.to s (.ref y :: us) ws KX (by rw [List.length_cons, ← rv.length, lv]) (rz.length.symm.trans lz)) (fun y => hb.rel (.cons rfl rv) rz) hx J q2
end
end KG

set_option Elab.async false
set_option linter.all false
set_option maxRecDepth 100000
set_option maxHeartbeats 1000000
/-! KW5: a new instance made by places and keywords in the body of a try: what it may raise is wished at the slots as they stand. -/
namespace KG
open PySem PySem.Spec PySem.Calls PyProof.Rows L2
section
variable {X : Cx} {k n : Nat} {C f : Addr} {fd : FuncData} {ps ks : List Str} {sp : Sp} {e : Expr} {es : List Expr} {kws : List Keyword} {x : Str} {p pos : Pos} {t tk : TA} {gg : List Value → List Value → List Value} {gV : List V → List V → List V} {W : WX}
def tMakeW (W : WX) (C : Addr) (n j : Nat) (sp : Sp) (gV : List V → List V → List V) (t tk : TA) : TE := fun σ H Q => ∃ E : XK, (∀ cls d H', E cls d H' → W cls d σ H') ∧ tMakeM C n j sp gV E t tk σ H Q
theorem pe_gmakeW (tw : Takes X W) (M : Mk X.K C f) (F : Gd X.prog X.w X.K X.mg X.base (L2.CX X.prog X.w) k f fd ps sp) (rm : Room (k + 1) X.A) (gd : X.A.guards = some []) (gl : Gl X x) (at_ : X.mg x = some (.ref C)) (hb : KBn X.K fd ps (n + 1) ks gg gV)
    (ha : PA X (e :: es) t) (hkw : PK X kws tk)
    (hst : starEach (e :: es) X.env = (false, eval e X.env) :: starEach es X.env := by rfl)
    (hall : (backToKw pos (keywordEach kws X.env)).all (·.1.isSome) = true := by rfl) (hks : (backToKw pos (keywordEach kws X.env)).filterMap (·.1) = ks := by rfl)
    (hpl : ((backTo pos (starEach (e :: es) X.env)).any (·.1) || (backToKw pos (keywordEach kws X.env)).any (·.1.isNone)) = false := by rfl)
    (hdb : (x == ("__debug__" : Str)) = false := by decide) :
    PE X (.Call (.Name x p) (e :: es) kws pos) (tMakeW W C n ks.length sp gV t tk) := by
  refine ⟨fun pins s σ H Q I hh => ?_⟩
  obtain ⟨E, hW, h⟩ := hh
  refine wpAny_Call_Name_kw (ld_glob I gl at_ (PySem.W.callWith_KW (first := []) (h₀ := X.base) I.ok.mod.kin M.kp hall (thn (ha.run pos pins s σ H _ I h) fun us s1 z1 => ?_) hpl hst) hdb)
  obtain ⟨vs, H1, J1, rv, q1⟩ := z1
  refine thn (hkw.run pos pins s1 σ H1 _ J1 q1) fun ws s2 z2 => ?_
  obtain ⟨zs, H2, J, rz, lv, lz, q2⟩ := z2
  refine ⟨J.kIn, ?_⟩
  rw [hks]
  show wpAny _ _ (call (.ref C) us (ks.zip ws)) _ _ _
  have hq := q2 (s2.heap.objs.size + 1) s2.heap.objs.size (J.hok.fresh (Nat.le_succ _)) (J.hok.fresh (Nat.le_refl _)) (Nat.ne_of_lt (Nat.lt_succ_self _))
  have Jm := Inv.made (C := C) J
  have r1 : Vals (V.ref (s2.heap.objs.size + 1) :: vs) (Value.ref (s2.heap.objs.size + 1) :: us) := .cons rfl rv
  refine wpAny_call (make_map (f := f) J.kIn M.makes M.init (beq_iff_eq.mp M.fn) (codeAny_mono (F.go _ X.stack _ _ ⟨Value.ref (s2.heap.objs.size + 1) :: us, ks.zip ws⟩ _ _ _ E (rm.make C us _)
    (und_make.trans gd) (Jm.env0.make C us _) (hb.to _ (.ref (s2.heap.objs.size + 1) :: us) ws Jm.kIn (by rw [List.length_cons, ← rv.length, lv]) (rz.length.symm.trans lz)) (hb.rel r1 rz) hq) fun out s' hq' => ?_))
  match out, hq' with
  | .error er, hq' => exact tw er s' (XE.of_call Jm (fun cls d H' h => hW cls d H' h) hq')
  | .ok (.ret u), hq' =>
    obtain ⟨v, H', I3, rv', ev, q3⟩ := Jm.after hq'
    subst ev
    exact ⟨rv', ⟨V.ref (s2.heap.objs.size + 1), H', I3, rfl, q3⟩⟩
end
end KG

set_option Elab.async false
set_option linter.all false
set_option maxRecDepth 100000
set_option maxHeartbeats 4000000
/-! KX2: several clauses, each keeping its error under the same name. -/
namespace KG
open PySem PySem.Spec PyProof.Rows L2
def wKeeps (K : PySem.W.Frag) (i : Nat) (Wout : WX) (D : Ends) : List (Value × (Addr → Value → Option Addr → TS)) → WX
  | [] => Wout
  | (c, ts) :: r => wKeep K c i ts (wKeeps K i Wout D r) D
inductive HdsK (X : Cx) (n : Str) : List ExceptHandler → List (Value × (Addr → Value → Option Addr → TS)) → Prop
  | nil : HdsK X n [] []
  | cons {x : Str} {c : Value} {ts : Addr → Value → Option Addr → TS} {b₀ : Stmt} {suite : List Stmt} {np pos' : Pos} {hds : List ExceptHandler} {l : List (Value × (Addr → Value → Option Addr → TS))} (hc : Names X x c)
      (inner : ∀ (a : Addr) (oe : Obj) (cls : Value) (d : Option Addr) (pn : List (Addr × Obj)), Zc cls d oe → (∃ vs, oe.data = .fields vs) → PSs (X.suite a ((a, oe) :: pn)) (b₀ :: suite) (ts a cls d)) (rest : HdsK X n hds l) :
      HdsK X n (.ExceptHandler (some (.Name x np)) (some n) (b₀ :: suite) pos' :: hds) ((c, ts) :: l)
section
variable {X : Cx} {n : Str} {i : Nat} {body : List Stmt} {pos : Pos} {tb : WX → TS} {Wout : WX} {pins : List (Addr × Obj)} {σ : L2.St} {H : Hp} {s : Shared} {D : Ends} {hds : List ExceptHandler} {h₀ : ExceptHandler} {l : List (Value × (Addr → Value → Option Addr → TS))}
theorem clauses_meet {xe₀ : Value → Shared → Prop} {u : Value} {s' : Shared} (stk : X.stack = X.env :: X.outer) (fr : X.env.frame = some X.env.locals) (noex : X.ex = []) (nd : X.N.Nodup) (place : X.N[i]? = some n) (loc : X.env.kindOf n = some .local) (tk : Takes X Wout)
    (hk : HdsK X n hds l) (ok : X.Ok) (xx : XE (X.tr (X.pn ++ pins) xe₀) (wKeeps X.K i Wout D l) u s') :
    wpAny (model X.prog X.w) X.A (noteFrame u X.env) (fun _ s₂ => wpAny (model X.prog X.w) X.A (setFlight u none) (fun _ s₃ => wpAny (model X.prog X.w) X.A (handleBy u X.env hds) (SP X pins D) X.xe s₃) X.xe s₂) X.xe s' := by
  have ⟨a, B, sI, _, τ, G, cls, d, eu, J', ground, grown, sky, free, os, bare, wish⟩ := xx
  subst eu
  have J : Inv X pins τ G sI := J'.ofTry ok
  have all_frames : X.A.frames = some (X.env :: X.outer) := stk ▸ ok.frames
  refine Sky.land (Zc.steady (cls := cls) (d := d)) all_frames fr (stk ▸ sky) fun h1 fl1 g1 => ?_
  have I1 : Inv X pins τ G { s' with heap := h1 } := J.landed ground fl1.1 (grown.trans g1) os bare
  have ⟨o1, v1, at1, z1, d1⟩ := fl1.there
  have by_ : Beside X pins a := beside_of stk fr noex J ground fl1.2.1 (off_frames fl1.2.2.1 at1 d1)
  have T1 := I1.suite at1 d1 free by_.own by_.outer
  have kind : PySem.W.Looks (model X.prog X.w) h1 (typeOf (.ref a)) cls := fun _ _ _ _ keeps q => wpAny_typeOf_ref (keeps _ _ at1) (z1.1.symm ▸ q)
  have go : wKeeps X.K i Wout D l cls d τ G → wpAny (model X.prog X.w) X.A (handleBy (.ref a) X.env hds) (SP X pins D) X.xe { s' with heap := h1 } := by
    clear xx wish
    induction hk with
    | nil =>
      intro no
      refine wpAny_handleBy_nil ?_
      have goes : wpAny (model X.prog X.w) X.A (setFlight (.ref a) X.env.frame) (fun _ s₄ => wpAny (model X.prog X.w) X.A (throw (.ref a) : Sem Flow) (SP X pins D) X.xe s₄) X.xe { s' with heap := h1 } := by
        rw [fr]
        exact HandSPX.setFlight_upZ fl1 fun h2 held g2 => wpAny_throw (tk _ _ ⟨a, B, sI, pins, τ, G, cls, d, rfl, J, ground, (grown.trans g1).trans g2, .inr (.inr (by rw [stk]; exact held)), free, os, bare, no⟩)
      have ⟨_, _, _, _, _, T, _, _, atE, _, dE, first, _⟩ := fl1
      unfold PySem.passOn
      refine wpAny_bind (wpAny_field atE dE first ?_)
      have some_ : ¬ ((Value.ref T == Value.none) = true) := by simp
      rw [if_neg some_]
      first
        | exact wpAny_bind (wpAny_pure (wpAny_bind goes))
        | exact wpAny_bind goes
    | @cons x c ts b₀ suite np pos' hds l hc inner rest ih =>
      rintro ⟨b, which, yes, no⟩
      refine wpAny_handleBy_cons (codeAny_handlers_test (class_of_clause hc T1 ((PySem.W.exm_one (M := model X.prog X.w) I1.kIn kind which).here ?_))) (fun z => nomatch z)
      rcases b with _ | _
      · exact ih (no rfl)
      · refine codeAny_handlers_suite_as (HandSPX.lands_againZ fl1 fun h2 fl2 g2 => ?_)
        have ⟨o2, v2, at2, z2, d2⟩ := fl2.there
        have T2 := (J.landed ground fl2.1 ((grown.trans g1).trans g2) os bare : Inv X pins τ G { s' with heap := h2 }).suite at2 d2 free by_.own by_.outer
        refine store_ok (X := X.suite a ((a, o2) :: (X.pn ++ pins))) (v := .ref a) T2 nd place (.inl loc) rfl (fun s3 T3 => ?_) (.inr loc)
        refine wpAny_mono ((inner a o2 cls d (X.pn ++ pins) z2 ⟨_, d2⟩).run [] s3 _ G _ T3 (yes rfl a free)) (fun flow s4 ends => ?_) (fun _ _ z => False.elim z)
        match flow, ends with
        | .next, ⟨_, _, T4, q⟩ => exact way_out ok nd place loc by_ z2 d2 T4 fun _ I5 => ⟨_, _, I5, q⟩
        | .brk, ⟨_, _, T4, q⟩ => exact way_out ok nd place loc by_ z2 d2 T4 fun _ I5 => ⟨_, _, I5, q⟩
        | .cont, ⟨_, _, T4, q⟩ => exact way_out ok nd place loc by_ z2 d2 T4 fun _ I5 => ⟨_, _, I5, q⟩
        | .ret _, ⟨_, _, _, T4, r, q⟩ => exact way_out ok nd place loc by_ z2 d2 T4 fun _ I5 => ⟨_, _, _, I5, r, q⟩
  exact go wish
/-- try: body / except x as n: .. / except y as n: .. -/
theorem ps_try_keeps (hs : X.stack = X.env :: X.outer) (hf : X.env.frame = some X.env.locals) (hex : X.ex = []) (hN : X.N.Nodup) (hi : X.N[i]? = some n) (hln : X.env.kindOf n = some .local) (tk : Takes X Wout)
    (hb : ∀ (W : WX) (pn : List (Addr × Obj)) (xe : Value → Shared → Prop), Takes (X.tr pn xe) W → PassesOwn (model X.prog X.w) X.A X.env xe → PSs (X.tr pn xe) body (tb W))
    (hk : HdsK X n (h₀ :: hds) l) : PS X (.Try body (h₀ :: hds) [] [] pos) (fun D σ H => tb (wKeeps X.K i Wout D l) D σ H) := by
  constructor
  intro pins s σ H D I start_
  refine wpAny_Try_except ?_
  refine wpAny_mono ((hb _ (X.pn ++ pins) (fun u s₁ => wpAny (model X.prog X.w) X.A (noteFrame u X.env) (fun _ s₂ => wpAny (model X.prog X.w) X.A (setFlight u none) (fun _ s₃ => wpAny (model X.prog X.w) X.A (handleBy u X.env (h₀ :: hds)) (SP X pins D) X.xe s₃) X.xe s₂) X.xe s₁)
    (fun _ _ xx => clauses_meet hs hf hex hN hi hln tk hk I.ok xx) PassesOwn.looking).run [] s σ H D (I.toTry _) start_) (fun flow s1 ends => ?_) (fun _ _ z => z)
  match flow, ends with
  | .next, ⟨_, _, T, q⟩ => exact wpAny_execs_nil ⟨_, _, T.ofTry I.ok, q⟩
  | .brk, ⟨_, _, T, q⟩ => exact ⟨_, _, T.ofTry I.ok, q⟩
  | .cont, ⟨_, _, T, q⟩ => exact ⟨_, _, T.ofTry I.ok, q⟩
  | .ret _, ⟨_, _, _, T, r, q⟩ => exact ⟨_, _, _, T.ofTry I.ok, r, q⟩
end
end KG

set_option Elab.async false
set_option linter.all false
set_option maxRecDepth 100000
set_option maxHeartbeats 4000000
/-! KX3: isinstance of the error that a suite holds, fields stored in it: one class, or a tuple of classes. -/
namespace KG
open PySem PySem.Spec PyProof.Rows L2
/-- a the error that the suite holds, cls its class, d its dict -/
def rXs (K : PySem.W.Frag) (a : Addr) (cls : Value) (d : Option Addr) : List V → Hp → VK → Prop := fun xs H Q => ∃ (D dd : Addr) (fs : List (Str × V)), cls = .ref D ∧ d = some dd ∧ H dd = some (.xd fs) ∧ ExcC K D ∧
  ((∃ (c : V) (cv : Value) (b : Bool), xs = [.ref a, c] ∧ (∀ u, RelV c u → u = cv) ∧ PySem.W.kitOne K (.ref D) cv = some b ∧ Q (.bl b) H) ∨
   (∃ (tp : Addr) (cs : List V) (us : List Value) (b : Bool), xs = [.ref a, .ref tp] ∧ H tp = some (.tup cs) ∧ Paired ClsV cs us ∧ PySem.W.kitAny K (.ref D) us = some b ∧ Q (.bl b) H))
theorem call_xs {X : Cx} {a : Addr} {oe : Obj} {cls : Value} {d : Option Addr} {pn : List (Addr × Obj)} (hz : Zc cls d oe) (hf : ∃ vs, oe.data = .fields vs) : CallR (X.suite a ((a, oe) :: pn)) (.builtin "isinstance") (rXs X.K a cls d) := by
  intro pins s σ H xs us Q I r h
  obtain ⟨D, dd, fs, rfl, rfl, hdd, C, h⟩ := h
  obtain ⟨hget, _⟩ := I.pin (a, oe) (List.mem_append.mpr (.inl List.mem_cons_self))
  obtain ⟨vs, hv⟩ := hf
  obtain ⟨mA, ⟨od, _, _, ho, _⟩, _⟩ := I.hok dd _ hdd
  have J : PySem.W.InstAt s.heap a oe D (some od) := by
    obtain ⟨oc, oda, odt, osl⟩ := oe
    obtain ⟨h1, h2⟩ := hz
    dsimp only at h1 h2 hv
    subst h1 h2 hv
    exact ⟨hget, rfl, rfl, ho⟩
  rcases h with ⟨c, cv, b, rfl, hcv, e, q⟩ | ⟨tp, cs, ws, b, rfl, hT, k, e, q⟩
  · obtain ⟨u1, u2, rfl, r1, r2⟩ := vals2 r
    obtain rfl : u1 = Value.ref a := r1
    have ec := hcv _ r2
    subst ec
    exact PySem.W.kia_one (PySem.W.kitx_exc (excC_cls C) C.hg C.hk C.hs C.ha C.hn C.ht C.hm) I.kIn J e (fun z => nomatch z) fun tk => ⟨.bl b, H, I.kept (t' := tk) fun _ _ z => z, rfl, q⟩
  · obtain ⟨u1, u2, rfl, r1, r2⟩ := vals2 r
    obtain rfl : u1 = Value.ref a := r1
    cases (show u2 = Value.ref tp from r2)
    obtain ⟨_, its, rv, o, h1, h2, n, h3⟩ := (show ObjOk X.prog X.w H s.heap tp (.tup cs) from I.hok tp _ hT)
    have e3 := ClsV.all k rv
    subst e3
    obtain ⟨oc, od', dt, sl⟩ := o
    simp only at h2 h3
    subst h2 h3
    exact PySem.W.kia_tup (PySem.W.kitx_exc (excC_cls C) C.hg C.hk C.hs C.ha C.hn C.ht C.hm) I.kIn J h1 e (fun z => nomatch z) fun tk => ⟨.bl b, H, I.tok tk, rfl, q⟩
/-- a tuple laid in the suite: not where the suite's error lies -/
def tTupN (a : Addr) (t : TA) : TE := fun σ H Q => t σ H fun xs H1 => xs.length ≤ sizeLine ∧ ∀ (p : Addr) (H2 : Hp), H1 p = none → p ≠ a → H2 p = some (.tup xs) → (∀ b, b ≠ p → H2 b = H1 b) → Q (.ref p) H2
theorem pe_tupS {X : Cx} {a : Addr} {oe : Obj} {pn : List (Addr × Obj)} {es : List Expr} {t : TA} {nn : Nat} {pos : Pos} (h : PA (X.suite a ((a, oe) :: pn)) es t) : PE (X.suite a ((a, oe) :: pn)) (.Tuple es nn pos) (tTupN a t) := by
  refine ⟨fun pins s σ H Q I hq => ?_⟩
  refine wpAny_Tuple_spliced (thn (h.run pos pins s σ H _ I hq) fun us s1 z1 => ?_)
  obtain ⟨xs, H1, J, r, sz, q⟩ := z1
  refine ⟨by rw [← r.length]; exact sz, ?_⟩
  have there := (J.pin (a, oe) (List.mem_append.mpr (.inl List.mem_cons_self))).1
  have far : s1.heap.objs.size ≠ a := Nat.ne_of_gt (Heap.lt_size there)
  have free : H1 s1.heap.objs.size = none := J.hok.fresh (Nat.le_refl _)
  exact ⟨.ref s1.heap.objs.size, upd H1 s1.heap.objs.size (.tup xs), J.laid (t' := s1.toks) (o := .tup xs) (fun b u e => Heap.get?_push_of_some _ e) (Nat.le_refl _) ⟨sz, us, r, ⟨_, Heap.get?_push_size _ rfl, rfl, _, rfl⟩⟩, rfl, q _ _ free far upd_same fun b nb => upd_ne nb⟩
end KG

set_option Elab.async false
set_option linter.all false
set_option maxRecDepth 100000
set_option maxHeartbeats 4000000
namespace Law
open PySem PySem.Spec PySem.Calls PyProof.Rows L2 KG LamX
local macro_rules | `(tactic| walk_at "1") => `(tactic| first
  | (with_reducible refine w_var rfl ?_) | (with_reducible refine w_c ?_) | (with_reducible refine w_seq ?_) | (with_reducible refine w_asg ?_) | (with_reducible refine w_gname ?_) | (with_reducible refine w_op ?_) | (with_reducible refine w_un ?_)
  | (with_reducible refine w_add ?_) | (with_reducible refine w_sub ?_) | ((with_reducible refine' w_mod ?mo ?_); (case mo => first | assumption | decide | omega)) | (with_reducible refine w_and ?_) | (with_reducible refine w_or ?_) | (with_reducible refine w_xor ?_)
  | (with_reducible refine w_gt ?_) | (with_reducible refine w_lt ?_) | (with_reducible refine w_ge ?_) | (with_reducible refine w_le ?_) | ((with_reducible refine' w_eq ?sc ?_); (case sc => rfl)) | ((with_reducible refine' w_ne ?sc ?_); (case sc => rfl))
  | (with_reducible refine w_ret ?_) | (with_reducible refine w_next ?_) | (with_reducible refine w_ifs ?_) | (with_reducible refine w_ifx ?_) | (with_reducible refine w_test ?_) | (with_reducible refine w_tB ?_) | (with_reducible refine w_bl ?_)
  | ((with_reducible refine' w_ixL ?ixh ?ixa ?_); (case ixh => first | exact SqL.of (by assumption)); (case ixa => first | rfl | skip)) | ((with_reducible refine' w_ixT ?ixh ?ixa ?_); (case ixh => first | exact SqT.of (by assumption)); (case ixa => first | rfl | skip))
  | ((with_reducible refine' w_fld ?_)) | ((with_reducible refine' fld ?fh ?fc ?fn ?fl ?_); (case fh => assumption); (case fc => assumption); (case fn => assumption); (case fl => rfl)) | (with_reducible refine w_sfld ?_)
  | (with_reducible refine Or.inl ⟨_, rfl, ?_⟩) | (with_reducible refine w_gsub ?_) | (with_reducible refine w_andV ?_) | (with_reducible refine w_orV ?_)
  | (with_reducible refine w_nil ?_) | (with_reducible refine w_cons ?_) | (with_reducible refine w_tup ?_) | (with_reducible refine w_lst ?_) | (with_reducible refine w_and2 ?_) | (with_reducible refine w_or2 ?_) | (with_reducible refine w_not ?_) | (with_reducible refine w_cb ?_) | (with_reducible refine w_call ?_) | (with_reducible refine w_par ?_) | (with_reducible refine w_pnil ?_) | (with_reducible refine w_pcons ?_) | (with_reducible refine w_dput ?_) | (with_reducible refine w_dget ?_) | (with_reducible refine w_for ?_) | (with_reducible refine w_itup ?_) | (with_reducible refine w_ilist ?_) | (with_reducible refine w_irng ?_) | (with_reducible refine w_meth ?_) | (with_reducible refine w_make ?_) | (with_reducible refine w_makeK ?_) | (with_reducible refine w_methK ?_) | ((with_reducible refine' mth ?mh ?ml ?_); (case mh => assumption); (case ml => rfl)) | (with_reducible refine w_drop ?_))
local macro_rules | `(tactic| walk_at "go") => `(tactic| ((repeat (walk_at "1")); try dsimp only))
local macro_rules | `(tactic| walk_at "1") => `(tactic| first
  | (with_reducible refine w_notV ?_) | (with_reducible refine w_callK ?_) | (with_reducible refine w_lc ?_) | (with_reducible refine w_chain ?_) | (with_reducible refine w_neg ?_) | ((with_reducible refine' w_shr ?mo ?_); (case mo => first | assumption | omega)))
abbrev tIx (K : PySem.W.Frag) (i : Int) : TE := tOp (rIxL K) (tVar 0) (tC (.int i))
structure ErrF (K : PySem.W.Frag) (mg : Str → Option Value) (cF cK BE cM : Addr) : Prop where
  gF : mg "InvalidField" = some (.ref cF)
  gK : mg "InvalidKind" = some (.ref cK)
  gB : mg "BitError" = some (.ref BE)
  gM : mg "InvalidMap" = some (.ref cM)
  gi : mg "isinstance" = none
  xFF : PySem.W.exmOne K (.ref cF) (.ref cF) = some true
  xKF : PySem.W.exmOne K (.ref cK) (.ref cF) = some false
  xKK : PySem.W.exmOne K (.ref cK) (.ref cK) = some true
  fF : XfC K cF
  fK : XfC K cK
  n1 : PySem.W.findIn K (.ref cF) "name" = some none
  n2 : PySem.W.findIn K (.ref cF) "reason" = some none
  n3 : PySem.W.findIn K (.ref cK) "value" = some none
  eF : ExcC K cF
  eK : ExcC K cK
  kFB : PySem.W.kitOne K (.ref cF) (.ref BE) = some true
  kKB : PySem.W.kitOne K (.ref cK) (.ref BE) = some true
  kF : PySem.W.kitAny K (.ref cF) [.ref cK, .ref cM] = some false
  kK : PySem.W.kitAny K (.ref cK) [.ref cF, .ref cM] = some false
def spRef (K : PySem.W.Frag) : Sp := fun vs H Q _ => ∃ (t : Addr) (n lo sz r w d rs lk ky cm hd : V), vs = [.ref t] ∧ H t = some (.lst [n, lo, sz, r, w, d, rs, lk, ky, cm, hd]) ∧
  (OdV K H n ∧ OdV K H lo ∧ OdV K H sz ∧ OdV K H r ∧ OdV K H w ∧ OdV K H d ∧ OdV K H rs ∧ OdV K H lk ∧ OdV K H ky ∧ OdV K H cm ∧ OdV K H hd) ∧
  (∀ z : Str, dueF n lo sz r w d rs lk ky cm hd = some (.inl z) → ∀ (a : Addr) H', H' a = some (.tup [.str "field", n, .str z, .bl true, .bl false]) → Same H H' → Q (.ref a) H') ∧
  (∀ v : V, dueF n lo sz r w d rs lk ky cm hd = some (.inr v) → ∀ (a : Addr) H', H' a = some (.tup [.str "kind", v, .bl true, .bl false]) → Same H H' → Q (.ref a) H') ∧
  (dueF n lo sz r w d rs lk ky cm hd = none → ∀ H', Same H H' → Q .non H')
section
variable {P : Program} {w : World} {K : PySem.W.Frag} {mg : Str → Option Value} {base : Heap} {C CF cK cF BE cM : Addr} {mc : Value}
theorem ok_refused {fF : Addr} {fdF : FuncData} (D : DefAt K mg "_law_refused" s__law_refused ["_law_parts"]) (ER : ErrF K mg cF cK BE cM) (TF : F19 K mg CF) (MKF : Mk K CF fF) (GIF : Gd P w K mg base (L2.CX P w) 5 fF fdF ["self", "name", "low", "size", "reading", "writing", "device", "reset", "lock", "key", "commit", "held"] (spIF K C CF cK cF))
    (kbF : KBn K fdF ["self", "name", "low", "size", "reading", "writing", "device", "reset", "lock", "key", "commit", "held"] 4 ["reading", "writing", "device", "reset", "lock", "key", "commit", "held"] (fun us ws => us ++ ws) (fun us ws => us ++ ws)) : Cal P w K mg base 7 "_law_refused" (spRef K) := by
  refine D.cal (k := 6) sc__law_refused (fun vs H Q E h => ?_) (fun f cdv A outer s0 H vs Q E rm gd h => ?_)
  · obtain ⟨f, n, lo, sz, r, w, d, rs, lk, ky, cm, hd, rfl, _⟩ := h
    rfl
  · obtain ⟨t, n, lo, sz, r, wr, d, rs, lk, ky, cm, hd, rfl, ht, ⟨on, ol, os, oR, ow, od, ors, olk, oky, ocm, ohd⟩, q1, q2, q⟩ := h
    let tP : TA := tCons (tIx K 0) (tCons (tIx K 1) (tCons (tIx K 2) tNil))
    let tQ : TA := tCons (tIx K 3) (tCons (tIx K 4) (tCons (tIx K 5) (tCons (tIx K 6) (tCons (tIx K 7) (tCons (tIx K 8) (tCons (tIx K 9) (tCons (tIx K 10) tNil)))))))
    refine ⟨_, (pss_cons (ps_set (i := 1) sc__law_refused.nd rfl (Or.inl rfl) pe_non)
    (pss_cons (ps_try_keeps (tb := fun W => tDrop (tMakeW W CF 3 8 (spIF K C CF cK cF) (fun us ws => us ++ ws) tP tQ)) (l := [(.ref cF, fun a cls d => tAsg (tTupN a (tCons (tC (.str "field")) (tCons (tXf a cls d cF "name" (tVar 2)) (tCons (tXf a cls d cF "reason" (tVar 2)) (tCons (tCB (rXs K a cls d) (tCons (tVar 2) (tCons (tC (.ref BE)) tNil))) (tCons (tCB (rXs K a cls d) (tCons (tVar 2) (tCons (tTupN a (tCons (tC (.ref cK)) (tCons (tC (.ref cM)) tNil))) tNil))) tNil)))))) (gName 1)), (.ref cK, fun a cls d => tAsg (tTupN a (tCons (tC (.str "kind")) (tCons (tXf a cls d cK "value" (tVar 2)) (tCons (tCB (rXs K a cls d) (tCons (tVar 2) (tCons (tC (.ref BE)) tNil))) (tCons (tCB (rXs K a cls d) (tCons (tVar 2) (tCons (tTupN a (tCons (tC (.ref cF)) (tCons (tC (.ref cM)) tNil))) tNil))) tNil))))) (gName 1))]) rfl rfl rfl sc__law_refused.nd (i := 2) rfl rfl L2.takes0 ?hb ?hk)
    (pss_one (ps_ret (pv 1))))), ?_⟩
    case hb =>
      intro W pn xe tk _
      exact pss_one (ps_expr (pe_gmakeW (x := "Field") tk MKF GIF (rm.mono (by decide)) gd rfl TF.g kbF (pa_cons (pe_ix ix_list (pv 0) pe_int (fun _ _ => rfl)) (pa_cons (pe_ix ix_list (pv 0) pe_int (fun _ _ => rfl)) (pa_cons (pe_ix ix_list (pv 0) pe_int (fun _ _ => rfl)) pa_nil))) (pk_cons (pe_ix ix_list (pv 0) pe_int (fun _ _ => rfl)) (pk_cons (pe_ix ix_list (pv 0) pe_int (fun _ _ => rfl)) (pk_cons (pe_ix ix_list (pv 0) pe_int (fun _ _ => rfl)) (pk_cons (pe_ix ix_list (pv 0) pe_int (fun _ _ => rfl)) (pk_cons (pe_ix ix_list (pv 0) pe_int (fun _ _ => rfl)) (pk_cons (pe_ix ix_list (pv 0) pe_int (fun _ _ => rfl)) (pk_cons (pe_ix ix_list (pv 0) pe_int (fun _ _ => rfl)) (pk_cons (pe_ix ix_list (pv 0) pe_int (fun _ _ => rfl)) pk_nil))))))))))
    case hk =>
      refine .cons ⟨rfl, by decide, .inl ER.gF⟩ (fun a oe cls d pn hz hf => ?_) (.cons ⟨rfl, by decide, .inl ER.gK⟩ (fun a oe cls d pn hz hf => ?_) .nil)
      · exact pss_one (ps_set (i := 1) sc__law_refused.nd rfl (Or.inl rfl) (pe_tupS (pa_cons pe_str (pa_cons (pe_xf ER.fF ER.n1 hz hf (pv 2)) (pa_cons (pe_xf ER.fF ER.n2 hz hf (pv 2)) (pa_cons (pe_callB (call_xs hz hf) (by rfl) ER.gi (by decide +kernel) (pa_cons (pv 2) (pa_cons (pe_glob (v := .ref BE) rfl ER.gB rfl) pa_nil))) (pa_cons (pe_callB (call_xs hz hf) (by rfl) ER.gi (by decide +kernel) (pa_cons (pv 2) (pa_cons (pe_tupS (pa_cons (pe_glob (v := .ref cK) rfl ER.gK rfl) (pa_cons (pe_glob (v := .ref cM) rfl ER.gM rfl) pa_nil))) pa_nil))) pa_nil)))))))
      · exact pss_one (ps_set (i := 1) sc__law_refused.nd rfl (Or.inl rfl) (pe_tupS (pa_cons pe_str (pa_cons (pe_xf ER.fK ER.n3 hz hf (pv 2)) (pa_cons (pe_callB (call_xs hz hf) (by rfl) ER.gi (by decide +kernel) (pa_cons (pv 2) (pa_cons (pe_glob (v := .ref BE) rfl ER.gB rfl) pa_nil))) (pa_cons (pe_callB (call_xs hz hf) (by rfl) ER.gi (by decide +kernel) (pa_cons (pv 2) (pa_cons (pe_tupS (pa_cons (pe_glob (v := .ref cF) rfl ER.gF rfl) (pa_cons (pe_glob (v := .ref cM) rfl ER.gM rfl) pa_nil))) pa_nil))) pa_nil))))))
    walk_at "go"
    refine ⟨_, fun _ _ _ z => z, ?_⟩
    unfold tMakeM
    walk_at "go"
    refine ⟨rfl, rfl, ?_⟩
    refine make fun x dx H1 n1 h1 s1 => ?_
    refine ⟨x, dx, n, lo, sz, r, wr, d, rs, lk, ky, cm, hd, rfl, h1, ⟨on.sm s1, ol.sm s1, os.sm s1, oR.sm s1, ow.sm s1, od.sm s1, ors.sm s1, olk.sm s1, oky.sm s1, ocm.sm s1, ohd.sm s1⟩, ?_, ?_, ?_⟩
    · intro z due dd H2 kp hdd
      have s2 : Same H H2 := fun b o e => kp b o (s1 b o e) (ne_of_none e n1)
      refine ⟨true, ER.xFF, fun _ a na => ?_, ?_⟩
      rotate_left
      · intro y
        cases y
      walk_at "go"
      unfold tTupN
      walk_at "go"
      refine ⟨_, rfl, rfl, rfl, dd, _, n, rfl, hdd, rfl, ?_⟩
      walk_at "go"
      refine ⟨_, rfl, rfl, rfl, dd, _, .str z, rfl, hdd, rfl, ?_⟩
      walk_at "go"
      refine ⟨cF, dd, _, rfl, rfl, hdd, ER.eF, .inl ⟨.ref BE, .ref BE, true, rfl, fun u r => r, ER.kFB, ?_⟩⟩
      walk_at "go"
      refine ⟨by show 2 ≤ sizeLine; decide, fun p1 H3 n3 na3 h3 e3 => ?_⟩
      walk_at "go"
      have s3 : Same H2 H3 := fun b o e => (e3 b (ne_of_none e n3)).trans e
      refine ⟨cF, dd, _, rfl, rfl, s3 _ _ hdd, ER.eF, .inr ⟨p1, _, _, false, rfl, h3, .cons (.own _) (.cons (.own _) .nil), ER.kF, ?_⟩⟩
      walk_at "go"
      refine ⟨by show 5 ≤ sizeLine; decide, fun p2 H4 n4 na4 h4 e4 => ?_⟩
      walk_at "go"
      have s4 : Same H3 H4 := fun b o e => (e4 b (ne_of_none e n4)).trans e
      refine q1 z due p2 _ ((upd_ne na4).trans h4) fun b o e => ?_
      rw [upd_ne (ne_of_none (s2 _ _ e) na)]
      exact s4 _ _ (s3 _ _ (s2 _ _ e))
    · intro v due dd H2 kp hdd
      have s2 : Same H H2 := fun b o e => kp b o (s1 b o e) (ne_of_none e n1)
      refine ⟨false, ER.xKF, ?_, fun _ => ?_⟩
      · intro y
        cases y
      refine ⟨true, ER.xKK, fun _ a na => ?_, ?_⟩
      rotate_left
      · intro y
        cases y
      walk_at "go"
      unfold tTupN
      walk_at "go"
      refine ⟨_, rfl, rfl, rfl, dd, _, v, rfl, hdd, rfl, ?_⟩
      walk_at "go"
      refine ⟨cK, dd, _, rfl, rfl, hdd, ER.eK, .inl ⟨.ref BE, .ref BE, true, rfl, fun u r => r, ER.kKB, ?_⟩⟩
      walk_at "go"
      refine ⟨by show 2 ≤ sizeLine; decide, fun p1 H3 n3 na3 h3 e3 => ?_⟩
      walk_at "go"
      have s3 : Same H2 H3 := fun b o e => (e3 b (ne_of_none e n3)).trans e
      refine ⟨cK, dd, _, rfl, rfl, s3 _ _ hdd, ER.eK, .inr ⟨p1, _, _, false, rfl, h3, .cons (.own _) (.cons (.own _) .nil), ER.kK, ?_⟩⟩
      walk_at "go"
      refine ⟨by show 4 ≤ sizeLine; decide, fun p2 H4 n4 na4 h4 e4 => ?_⟩
      walk_at "go"
      have s4 : Same H3 H4 := fun b o e => (e4 b (ne_of_none e n4)).trans e
      refine q2 v due p2 _ ((upd_ne na4).trans h4) fun b o e => ?_
      rw [upd_ne (ne_of_none (s2 _ _ e) na)]
      exact s4 _ _ (s3 _ _ (s2 _ _ e))
    · intro due k ra wa da H2 e1 e2 e3 hx hk kp
      refine ⟨rfl, ?_⟩
      have s2 : Same H H2 := fun b o e => kp b o (s1 b o e) (ne_of_none e n1)
      walk_at "go"
      exact q due H2 s2
end
end Law

set_option Elab.async false
set_option linter.all false
set_option maxRecDepth 100000
set_option maxHeartbeats 4000000
namespace Law
open PySem PySem.Spec PySem.Calls PyProof.Rows L2 KG LamX
local macro_rules | `(tactic| walk_at "1") => `(tactic| first
  | (with_reducible refine w_var rfl ?_) | (with_reducible refine w_c ?_) | (with_reducible refine w_seq ?_) | (with_reducible refine w_asg ?_) | (with_reducible refine w_gname ?_) | (with_reducible refine w_op ?_) | (with_reducible refine w_un ?_)
  | (with_reducible refine w_add ?_) | (with_reducible refine w_sub ?_) | ((with_reducible refine' w_mod ?mo ?_); (case mo => first | assumption | decide | omega)) | (with_reducible refine w_and ?_) | (with_reducible refine w_or ?_) | (with_reducible refine w_xor ?_)
  | (with_reducible refine w_gt ?_) | (with_reducible refine w_lt ?_) | (with_reducible refine w_ge ?_) | (with_reducible refine w_le ?_) | ((with_reducible refine' w_eq ?sc ?_); (case sc => rfl)) | ((with_reducible refine' w_ne ?sc ?_); (case sc => rfl))
  | (with_reducible refine w_ret ?_) | (with_reducible refine w_next ?_) | (with_reducible refine w_ifs ?_) | (with_reducible refine w_ifx ?_) | (with_reducible refine w_test ?_) | (with_reducible refine w_tB ?_) | (with_reducible refine w_bl ?_)
  | ((with_reducible refine' w_ixL ?ixh ?ixa ?_); (case ixh => first | exact SqL.of (by assumption)); (case ixa => first | rfl | skip)) | ((with_reducible refine' w_ixT ?ixh ?ixa ?_); (case ixh => first | exact SqT.of (by assumption)); (case ixa => first | rfl | skip))
  | ((with_reducible refine' w_fld ?_)) | ((with_reducible refine' fld ?fh ?fc ?fn ?fl ?_); (case fh => assumption); (case fc => assumption); (case fn => assumption); (case fl => rfl)) | (with_reducible refine w_sfld ?_)
  | (with_reducible refine Or.inl ⟨_, rfl, ?_⟩) | (with_reducible refine w_gsub ?_) | (with_reducible refine w_andV ?_) | (with_reducible refine w_orV ?_)
  | (with_reducible refine w_nil ?_) | (with_reducible refine w_cons ?_) | (with_reducible refine w_tup ?_) | (with_reducible refine w_lst ?_) | (with_reducible refine w_and2 ?_) | (with_reducible refine w_or2 ?_) | (with_reducible refine w_not ?_) | (with_reducible refine w_cb ?_) | (with_reducible refine w_call ?_) | (with_reducible refine w_par ?_) | (with_reducible refine w_pnil ?_) | (with_reducible refine w_pcons ?_) | (with_reducible refine w_dput ?_) | (with_reducible refine w_dget ?_) | (with_reducible refine w_for ?_) | (with_reducible refine w_itup ?_) | (with_reducible refine w_ilist ?_) | (with_reducible refine w_irng ?_) | (with_reducible refine w_meth ?_) | (with_reducible refine w_make ?_) | (with_reducible refine w_makeK ?_) | (with_reducible refine w_methK ?_) | ((with_reducible refine' mth ?mh ?ml ?_); (case mh => assumption); (case ml => rfl)) | (with_reducible refine w_drop ?_))
local macro_rules | `(tactic| walk_at "go") => `(tactic| ((repeat (walk_at "1")); try dsimp only))
local macro_rules | `(tactic| walk_at "1") => `(tactic| first
  | (with_reducible refine w_notV ?_) | (with_reducible refine w_callK ?_) | (with_reducible refine w_lc ?_) | (with_reducible refine w_chain ?_) | (with_reducible refine w_neg ?_) | ((with_reducible refine' w_shr ?mo ?_); (case mo => first | assumption | omega)))
/-- signs below 128 alone -/
def asc (z : Str) : Bool := z.cps.toList.all fun c => decide (c < 128)
theorem asc_ok {z : Str} (h : asc z = true) : PyData.strOk z = true := by
  unfold PyData.strOk
  rw [Array.all_eq_true']
  intro b hb
  exact decide_eq_true (Nat.lt_trans (of_decide_eq_true (List.all_eq_true.mp h b (Array.mem_toList_iff.mpr hb))) (by decide))
theorem nm_asc {z : Str} (h : isNm (.str z) = true) : asc z = true := by
  unfold isNm at h
  rw [Bool.and_eq_true] at h
  have h1 : (decide (1 ≤ z.length ∧ z.length ≤ 8) && z.cps.toList.all (fun c => decide (c ∈ nameL.cps.toList))) = true := h.1
  rw [Bool.and_eq_true, List.all_eq_true] at h1
  have hs : ∀ c ∈ nameL.cps.toList, c < 128 := by decide +kernel
  exact List.all_eq_true.mpr fun b hb => decide_eq_true (hs b (of_decide_eq_true (h1.2 b hb)))
/-- none, a number or a short text of such signs -/
def Sc (x : V) : Prop := x = .non ∨ (∃ i, x = .int i) ∨ ∃ z, x = .str z ∧ z.length ≤ 100 ∧ asc z = true
theorem Sc.od {K : PySem.W.Frag} {H : Hp} {x : V} (h : Sc x) : OdV K H x := by
  rcases h with rfl | ⟨i, rfl⟩ | ⟨z, rfl, h1, h2⟩
  · exact od_non
  · exact od_int i
  · exact od_str h1 (by simpa [PyData.canLay0] using asc_ok h2)
theorem Nm.sc {z : Str} (h : Nm z) : Sc (.str z) := .inr (.inr ⟨z, rfl, Nat.le_trans (show z.length ≤ 8 by
  have := h.1
  rw [Array.length_toList] at this
  exact this) (by decide), nm_asc h.2.1⟩)
def spRight : Sp := fun vs H Q _ => ∃ (p l : Addr) (cells : List Int) (n : Nat), vs = [.ref p] ∧ PenC n p l cells H ∧ n + 120 ≤ 100000 ∧
  ∀ (t : Addr) (xs : List V) H', xs.length = 11 → (∀ x ∈ xs, Sc x) → H t = none → H' t = some (.lst xs) → PenC (n + 100) p l cells H' → Kp p H H' → Q (.ref t) H'
theorem pw_le {k : Nat} (h : k ≤ 16) : 0 < (1 : Int) * 2 ^ k ∧ (1 : Int) * 2 ^ k < 1073741824 := by
  have e : (2 : Int) ^ k = ((2 ^ k : Nat) : Int) := by rw [Int.natCast_pow]; rfl
  have h1 : 2 ^ k ≤ 2 ^ 16 := Nat.pow_le_pow_right (by decide) h
  have h2 : 0 < 2 ^ k := Nat.pow_pos (by decide)
  rw [e]
  omega
section
variable {P : Program} {w : World} {K : PySem.W.Frag} {mg : Str → Option Value} {base : Heap}
theorem ok_right (D : DefAt K mg "_law_right" s__law_right ["_law_pen_here"]) (B : B1 mg) (c_law_draw : Cal P w K mg base 1 "_law_draw" spDraw) (c_law_name : Cal P w K mg base 2 "_law_name" spName) : Cal P w K mg base 3 "_law_right" spRight := by
  refine D.cal (k := 2) sc__law_right (fun vs H Q E h => ?_) (fun f cdv A outer s0 H vs Q E rm gd h => ?_)
  · obtain ⟨p, l, cells, n, rfl, _⟩ := h
    rfl
  · obtain ⟨p, l, cells, n, rfl, pen, hn, q⟩ := h
    have dr : ∀ {Q : VK} {H' : Hp} {E : XK} (m : Int) (j : Nat), PenC (n + j) p l cells H' → Kp p H H' → j ≤ 100 → 0 < m → m < 1073741824 → (∀ (d : Int) (H2 : Hp), 0 ≤ d → d < m → PenC (n + (j + 1)) p l cells H2 → Kp p H H2 → Kp p H' H2 → Q (.int d) H2) → spDraw [.ref p, .int m] H' Q E := fun {Q H' E} m j pn kp hj m0 m1 q =>
      ⟨p, l, cells, n + j, m, rfl, pn, by omega, m0, m1, fun d H2 a0 a1 pen2 k2 => q d H2 a0 a1 pen2 (fun b o e nb => k2 b o (kp b o e nb) nb) k2⟩
    have ls : ∀ {xs : List V} {H' : Hp} {Q : VK} (j : Nat), xs.length ≤ 20 → PenC (n + j) p l cells H' → Kp p H H' → (∀ (a : Addr) (H2 : Hp), H' a = none → H2 a = some (.lst xs) → PenC (n + j) p l cells H2 → Kp p H H2 → Same H' H2 → Q (.ref a) H2) → New HO.lst Q xs H' := fun {xs H' Q} j hl pn kp q =>
      new (Nat.le_trans hl (by decide)) fun a H2 na ha s2 => q a H2 na ha (pn.same s2) (fun b o e nb => s2 _ _ (kp b o e nb)) s2
    refine ⟨_, (pss_cons (ps_set (i := 1) sc__law_right.nd rfl (Or.inl rfl) (pc c_law_draw rm (by decide) gd rfl (pa_cons (pv 0) (pa_cons pe_int pa_nil))))
    (pss_cons (ps_set (i := 2) sc__law_right.nd rfl (Or.inl rfl) (pe_op op_add pe_int (pc c_law_draw rm (by decide) gd rfl (pa_cons (pv 0) (pa_cons (pe_ix ix_list (pe_lst (pa_cons pe_int (pa_cons pe_int (pa_cons pe_int pa_nil)))) (pc c_law_draw rm (by decide) gd rfl (pa_cons (pv 0) (pa_cons pe_int pa_nil))) (fun _ _ => rfl)) pa_nil)))))
    (pss_cons (ps_set (i := 3) sc__law_right.nd rfl (Or.inl rfl) (pe_ix ix_list (pe_lst (pa_cons pe_int (pa_cons (pc c_law_draw rm (by decide) gd rfl (pa_cons (pv 0) (pa_cons (pe_op op_sub pe_int (pv 2)) pa_nil))) (pa_cons (pe_op op_sub pe_int (pv 2)) pa_nil)))) (pc c_law_draw rm (by decide) gd rfl (pa_cons (pv 0) (pa_cons pe_int pa_nil))) (fun _ _ => rfl)))
    (pss_cons (ps_set (i := 4) sc__law_right.nd rfl (Or.inl rfl) (pe_ix ix_tup (pe_tup (pa_cons pe_str (pa_cons pe_str pa_nil))) (pc c_law_draw rm (by decide) gd rfl (pa_cons (pv 0) (pa_cons pe_int pa_nil))) (fun _ _ => rfl)))
    (pss_cons (ps_set (i := 5) sc__law_right.nd rfl (Or.inl rfl) (pe_ix ix_tup (pe_tup (pa_cons pe_str (pa_cons pe_str (pa_cons pe_str (pa_cons pe_str (pa_cons pe_str (pa_cons pe_str (pa_cons pe_str pa_nil)))))))) (pc c_law_draw rm (by decide) gd rfl (pa_cons (pv 0) (pa_cons pe_int pa_nil))) (fun _ _ => rfl)))
    (pss_cons (ps_set (i := 6) sc__law_right.nd rfl (Or.inl rfl) (pe_ix ix_tup (pe_tup (pa_cons pe_str (pa_cons pe_str (pa_cons pe_str (pa_cons pe_str pa_nil))))) (pc c_law_draw rm (by decide) gd rfl (pa_cons (pv 0) (pa_cons pe_int pa_nil))) (fun _ _ => rfl)))
    (pss_cons (ps_set (i := 7) sc__law_right.nd rfl (Or.inl rfl) (pe_ix ix_list (pe_lst (pa_cons pe_int (pa_cons (pc c_law_draw rm (by decide) gd rfl (pa_cons (pv 0) (pa_cons (pe_op op_shl pe_int (pv 2)) pa_nil))) (pa_cons (pe_op op_sub (pe_op op_shl pe_int (pv 2)) pe_int) pa_nil)))) (pc c_law_draw rm (by decide) gd rfl (pa_cons (pv 0) (pa_cons pe_int pa_nil))) (fun _ _ => rfl)))
    (pss_cons (ps_set (i := 8) sc__law_right.nd rfl (Or.inl rfl) (pe_op op_cat (pe_lc (own := [("_law_step", 9)]) (g := (gName 9)) (by rfl) sc__law_right.nd (pi_range1 rfl B.g_range (pa_cons pe_int pa_nil)) (blkOk_by (own := [("_law_step", 9)]) (N := ["_law_pen_here", "_law_choice", "_law_span", "_law_base", "_law_got", "_law_put", "_law_own", "_law_begin", "_law_others", "_law_step"]) (sc := defScope s__law_right) (by decide +kernel)) (fun _ _ _ _ _ => (pg_name (i := 9) sc__law_right.nd rfl (Or.inl rfl))) (fun _ _ _ _ _ => pts_nil) (fun _ _ _ _ _ => (pe_ix (r := rIxL K) ix_list (pe_lst (pa_cons pe_non (pa_cons (pc c_law_name rm (by decide) gd rfl (pa_cons (pv 0) pa_nil)) pa_nil))) (pc c_law_draw rm (by decide) gd rfl (pa_cons (pv 0) (pa_cons pe_int pa_nil))) (fun _ _ => rfl)))) (pe_lst (pa_cons pe_non pa_nil))))
    (pss_cons (ps_if (pt_cmpR op_eq (pv 1) pe_int (nomark _))
      (pss_one (ps_ret (pe_lst (pa_cons (pc c_law_name rm (by decide) gd rfl (pa_cons (pv 0) pa_nil)) (pa_cons (pv 3) (pa_cons (pv 2) (pa_cons pe_str (pa_cons pe_str (pa_cons pe_str (pa_cons pe_int (pa_cons pe_non (pa_cons pe_non (pa_cons pe_non (pa_cons pe_non pa_nil))))))))))))))
      pss_nil)
    (pss_mid (ps_if (pt_cmpR op_eq (pv 1) pe_int (nomark _))
      (pss_cons (ps_par3 (i := 4) (j := 5) (l := 6) rfl sc__law_right.nd rfl rfl rfl (by decide) (by decide) (by decide) rfl rfl rfl (pa_cons pe_str (pa_cons pe_str (pa_cons (pe_ix ix_tup (pe_tup (pa_cons pe_str (pa_cons pe_str pa_nil))) (pc c_law_draw rm (by decide) gd rfl (pa_cons (pv 0) (pa_cons pe_int pa_nil))) (fun _ _ => rfl)) pa_nil))) (by rfl))
      (pss_one (ps_set (i := 8) sc__law_right.nd rfl (Or.inl rfl) (pe_lst (pa_cons pe_non (pa_cons pe_non (pa_cons pe_non (pa_cons (pc c_law_name rm (by decide) gd rfl (pa_cons (pv 0) pa_nil)) pa_nil))))))))
      (pss_one (ps_if (pt_cmpR op_notN (pe_ix ix_list (pv 8) pe_int (fun _ _ => rfl)) pe_non (nomark _))
        (pss_one (ps_asg (pe_tup (pa_cons pe_str (pa_cons pe_str (pa_cons pe_str pa_nil)))) (pg_tup rfl (pgs_cons (pg_name (i := 4) sc__law_right.nd rfl (Or.inl rfl)) (pgs_cons (pg_name (i := 5) sc__law_right.nd rfl (Or.inl rfl)) (pgs_cons (pg_name (i := 6) sc__law_right.nd rfl (Or.inl rfl)) pgs_nil))))))
        pss_nil)))
    (pss_mid (ps_if (pt_cmpR op_eq (pv 6) pe_str (nomark _))
      (pss_one (ps_set (i := 7) sc__law_right.nd rfl (Or.inl rfl) pe_int))
      pss_nil)
    (pss_one (ps_ret (pe_op op_cat (pe_lst (pa_cons (pc c_law_name rm (by decide) gd rfl (pa_cons (pv 0) pa_nil)) (pa_cons (pv 3) (pa_cons (pv 2) (pa_cons (pv 4) (pa_cons (pv 5) (pa_cons (pv 6) (pa_cons (pv 7) pa_nil)))))))) (pv 8))))))))))))))), ?_⟩
    walk_at "go"
    refine dr 5 0 pen (fun _ _ h _ => h) (by decide) (by decide) (by decide) fun ch H1 c0 c5 pen1 k1 _ => ?_
    walk_at "go"
    refine ls 1 (by show 3 ≤ 20; decide) pen1 k1 fun a2 H2 n2 h2 pen2 k2 s2 => ?_
    walk_at "go"
    refine dr 3 1 pen2 k2 (by decide) (by decide) (by decide) fun d3 H3 e0 e3 pen3 k3 k23 => ?_
    obtain ⟨m3, m30, m31, em⟩ : ∃ m : Int, 1 ≤ m ∧ m ≤ 16 ∧ atI [V.int 1, V.int 3, V.int 16] d3 = some (.int m) := by
      have : d3 = 0 ∨ d3 = 1 ∨ d3 = 2 := by omega
      rcases this with rfl | rfl | rfl
      · exact ⟨1, by decide, by decide, rfl⟩
      · exact ⟨3, by decide, by decide, rfl⟩
      · exact ⟨16, by decide, by decide, rfl⟩
    refine w_ixL (SqL.of (k23 _ _ h2 (pen1.ne n2).1)) em ?_
    walk_at "go"
    refine dr m3 2 pen3 k3 (by decide) (by omega) (by omega) fun sp H4 p0 p1 pen4 k4 _ => ?_
    walk_at "go"
    refine dr _ 3 pen4 k4 (by decide) (by omega) (by omega) fun bs H5 b0 b1 pen5 k5 _ => ?_
    walk_at "go"
    refine ls 4 (by show 3 ≤ 20; decide) pen5 k5 fun a6 H6 n6 h6 pen6 k6 s6 => ?_
    walk_at "go"
    refine dr 3 4 pen6 k6 (by decide) (by decide) (by decide) fun d7 H7 f0 f3 pen7 k7 k67 => ?_
    obtain ⟨ba, eb⟩ : ∃ m : Int, atI [V.int 0, V.int bs, V.int (32 - (1 + sp))] d7 = some (.int m) := by
      have : d7 = 0 ∨ d7 = 1 ∨ d7 = 2 := by omega
      rcases this with rfl | rfl | rfl
      · exact ⟨0, rfl⟩
      · exact ⟨_, rfl⟩
      · exact ⟨_, rfl⟩
    refine w_ixL (SqL.of (k67 _ _ h6 (pen5.ne n6).1)) eb ?_
    walk_at "go"
    refine new (show 2 ≤ sizeLine by decide) fun a8 H8 n8 h8 s8 => ?_
    walk_at "go"
    refine dr 2 5 (pen7.same s8) (fun b o e nb => s8 _ _ (k7 b o e nb)) (by decide) (by decide) (by decide) fun d9 H9 g0 g2 pen9 k9 k89 => ?_
    obtain ⟨gt, mg, eg⟩ := at_strs (l := RD) (i := d9) g0 g2
    refine w_ixT (SqT.of (k89 _ _ h8 (fun z => by rw [z] at n8; obtain ⟨_, _, _, _, _, y⟩ := pen7; rw [y] at n8; cases n8))) eg ?_
    walk_at "go"
    refine new (show 7 ≤ sizeLine by decide) fun a10 H10 n10 h10 s10 => ?_
    walk_at "go"
    refine dr 7 6 (pen9.same s10) (fun b o e nb => s10 _ _ (k9 b o e nb)) (by decide) (by decide) (by decide) fun d11 H11 i0 i2 pen11 k11 k1011 => ?_
    obtain ⟨pt, mp, ep⟩ := at_strs (l := WR) (i := d11) i0 i2
    refine w_ixT (SqT.of (k1011 _ _ h10 (pen9.ne n10).1)) ep ?_
    walk_at "go"
    refine new (show 4 ≤ sizeLine by decide) fun a12 H12 n12 h12 s12 => ?_
    walk_at "go"
    refine dr 4 7 (pen11.same s12) (fun b o e nb => s12 _ _ (k11 b o e nb)) (by decide) (by decide) (by decide) fun d13 H13 j0 j2 pen13 k13 k1213 => ?_
    obtain ⟨ow, mo, eo⟩ := at_strs (l := DV) (i := d13) j0 j2
    refine w_ixT (SqT.of (k1213 _ _ h12 (pen11.ne n12).1)) eo ?_
    walk_at "go"
    obtain ⟨w0, w1⟩ := pw_le (k := (1 + sp).toNat) (by omega)
    refine w_shl ⟨by omega, by omega, by decide⟩ ?_
    walk_at "go"
    refine dr _ 8 pen13 k13 (by decide) w0 w1 fun d14 H14 _ _ pen14 k14 _ => ?_
    walk_at "go"
    refine w_shl ⟨by omega, by omega, by decide⟩ ?_
    walk_at "go"
    refine ls 9 (by show 3 ≤ 20; decide) pen14 k14 fun a15 H15 n15 h15 pen15 k15 s15 => ?_
    walk_at "go"
    refine dr 3 9 pen15 k15 (by decide) (by decide) (by decide) fun d16 H16 l0 l3 pen16 k16 k1516 => ?_
    obtain ⟨bg, ebg⟩ : ∃ m : Int, atI [V.int 0, V.int d14, V.int (1 * 2 ^ (1 + sp).toNat - 1)] d16 = some (.int m) := by
      have : d16 = 0 ∨ d16 = 1 ∨ d16 = 2 := by omega
      rcases this with rfl | rfl | rfl
      · exact ⟨0, rfl⟩
      · exact ⟨_, rfl⟩
      · exact ⟨_, rfl⟩
    refine w_ixL (SqL.of (k1516 _ _ h15 (pen14.ne n15).1)) ebg ?_
    walk_at "go"
    refine over_r (by decide) (by decide) ?_
    intro D nD
    have zD : Same H16 (upd H16 D (.lst [])) := fun b u e => by
      rw [upd_ne (ne_of_none e nD)]
      exact e
    obtain ⟨Dp, Dl⟩ := pen16.ne nD
    refine lc_range (lo := 0) (n := 3) (fun i H' => ∃ xs : List V, H' D = some (.lst xs) ∧ xs.length = i ∧ (∀ x ∈ xs, Sc x) ∧ PenC (n + (10 + 10 * i)) p l cells H' ∧ Kp p H H' ∧ Kp p H16 H') ⟨[], upd_same, rfl, fun c hc => by simp at hc, pen16.same zD, fun b o hb nb => zD _ _ (k16 b o hb nb), fun b o hb _ => zD b o hb⟩ (fun i H8 hi ⟨xs, hD, hl, hc, pen8, k8, kk8⟩ => ?_) (fun H17 ⟨xs, hD, hl, hc, pen17, k17, kk17⟩ => ?_)
    · walk_at "go"
      refine ⟨rfl, ?_⟩
      try unfold tYes
      refine iteT ?_
      walk_at "go"
      refine ⟨p, l, cells, n + (10 + 10 * i), rfl, pen8, by omega, fun z H9 nz pen9' k9' => ?_⟩
      walk_at "go"
      have kp9 : Kp p H H9 := fun b o e nb => k9' b o (k8 b o e nb) nb
      refine new (show 2 ≤ sizeLine by decide) fun a18 H18 n18 h18 s18 => ?_
      walk_at "go"
      refine dr 2 (10 + 10 * i + 9) (pen9'.same s18) (fun b o e nb => s18 _ _ (kp9 b o e nb)) (by omega) (by decide) (by decide) fun d19 H19 x0 x2 pen19 k19 kk19 => ?_
      obtain ⟨y, ey, sy⟩ : ∃ y : V, atI [V.non, V.str z] d19 = some y ∧ Sc y := by
        have : d19 = 0 ∨ d19 = 1 := by omega
        rcases this with rfl | rfl
        · exact ⟨_, rfl, .inl rfl⟩
        · exact ⟨_, rfl, nz.sc⟩
      refine w_ixL (SqL.of (kk19 _ _ h18 (pen9'.ne n18).1)) ey ?_
      have hD19 := kk19 _ _ (s18 _ _ (k9' _ _ hD Dp)) Dp
      refine ⟨xs, hD19, big_of (by omega), xs ++ [y], upd_same, by rw [List.length_append, hl]; rfl, fun x hx => ?_, pen19.put Dp Dl, fun b o hb nb => ?_, fun b o hb nb => ?_⟩
      · rcases List.mem_append.mp hx with hx | hx
        · exact hc x hx
        · rw [List.mem_singleton.mp hx]
          exact sy
      · have nbD : b ≠ D := fun e => by
          rw [e] at hb
          have := k16 _ _ hb (fun y => Dp y)
          rw [nD] at this
          cases this
        rw [upd_ne nbD]
        exact k19 b o hb nb
      · rw [upd_ne (ne_of_none hb nD)]
        exact kk19 _ _ (s18 _ _ (k9' _ _ (kk8 _ _ hb nb) nb)) nb
    · have bk : ∀ {Hk : Hp} {j : Nat} {t : Addr}, Kp p H Hk → PenC j p l cells Hk → Hk t = none → H t = none := fun {Hk j t} kp pn nt => by
        cases e : H t with
        | none => rfl
        | some o =>
          by_cases tp : t = p
          · obtain ⟨_, _, _, _, _, y⟩ := pn
            rw [tp, y] at nt
            cases nt
          · have := kp t o e tp
            rw [nt] at this
            cases this
      obtain ⟨y0, y1, y2, rfl⟩ : ∃ y0 y1 y2, xs = [y0, y1, y2] := by
        match xs, hl with
        | [y0, y1, y2], _ => exact ⟨y0, y1, y2, rfl⟩
      have c0' := hc y0 (.head _)
      have c1' := hc y1 (.tail _ (.head _))
      have c2' := hc y2 (.tail _ (.tail _ (.head _)))
      have scN : Sc .non := .inl rfl
      have scI : ∀ i, Sc (.int i) := fun i => .inr (.inl ⟨i, rfl⟩)
      have scW : ∀ z, z ∈ RD ∨ z ∈ WR ∨ z ∈ DV → Sc (.str z) := fun z hz => by
        have hl : (∀ z ∈ RD, z.length ≤ 100 ∧ asc z = true) ∧ (∀ z ∈ WR, z.length ≤ 100 ∧ asc z = true) ∧ (∀ z ∈ DV, z.length ≤ 100 ∧ asc z = true) := by decide +kernel
        rcases hz with h | h | h
        · exact .inr (.inr ⟨z, rfl, hl.1 z h⟩)
        · exact .inr (.inr ⟨z, rfl, hl.2.1 z h⟩)
        · exact .inr (.inr ⟨z, rfl, hl.2.2 z h⟩)
      walk_at "go"
      refine new (show 1 ≤ sizeLine by decide) fun a20 H20 n20 h20 s20 => ?_
      walk_at "go"
      refine w_cat (s20 _ _ hD) h20 rfl (show 4 ≤ sizeLine by decide) fun o H21 n21 h21 s21 => ?_
      have pen21 : PenC (n + 40) p l cells H21 := ((pen17.same s20).same s21)
      have k21 : Kp p H H21 := fun b o e nb => s21 _ _ (s20 _ _ (k17 b o e nb))
      walk_at "go"
      by_cases h0 : ch = 0
      · rw [decide_eq_true (by rw [h0])]
        refine iteT ?_
        walk_at "go"
        refine ⟨p, l, cells, n + 40, rfl, pen21, by omega, fun z H22 nz pen22 k22 => ?_⟩
        have kp22 : Kp p H H22 := fun b o e nb => k22 b o (k21 b o e nb) nb
        walk_at "go"
        refine new (show 11 ≤ sizeLine by decide) fun t H23 n23 h23 s23 => ?_
        refine q t _ H23 rfl (fun x hx => ?_) (bk kp22 pen22 n23) h23 ((pen22.same s23).mono (by omega)) fun b o e nb => s23 _ _ (kp22 b o e nb)
        simp only [List.mem_cons, List.not_mem_nil, or_false] at hx
        rcases hx with rfl | rfl | rfl | rfl | rfl | rfl | rfl | rfl | rfl | rfl | rfl <;> first | exact nz.sc | exact scI _ | exact scN | exact scW _ (by decide +kernel)
      · rw [decide_eq_false fun z => h0 (V.int.inj z)]
        refine iteF ?_
        refine w_mid (fun σ' H' => (∃ (g' p' w' : Str) (o' : Addr) (z0 z1 z2 z3 : V) (v9 : Option V), σ' = [some (.ref p), some (.int ch), some (.int (1 + sp)), some (.int ba), some (.str g'), some (.str p'), some (.str w'), some (.int bg), some (.ref o'), v9] ∧ g' ∈ RD ∧ p' ∈ WR ∧ w' ∈ DV ∧ H' o' = some (.lst [z0, z1, z2, z3]) ∧ o' ≠ p ∧ Sc z0 ∧ Sc z1 ∧ Sc z2 ∧ Sc z3) ∧ PenC (n + 60) p l cells H' ∧ Kp p H H') ?_ ?_
        · walk_at "go"
          by_cases h1 : ch = 1
          · rw [decide_eq_true (by rw [h1])]
            refine iteT ?_
            walk_at "go"
            unfold tPar3
            walk_at "go"
            refine new (show 2 ≤ sizeLine by decide) fun a22 H22 n22 h22 s22 => ?_
            walk_at "go"
            refine dr 2 40 (pen21.same s22) (fun b o e nb => s22 _ _ (k21 b o e nb)) (by decide) (by decide) (by decide) fun d23 H23 x0 x2 pen23 k23 kk23 => ?_
            obtain ⟨w', mw', ew⟩ : ∃ w' : Str, w' ∈ DV ∧ atI [V.str "still", V.str "drift"] d23 = some (.str w') := by
              have : d23 = 0 ∨ d23 = 1 := by omega
              rcases this with rfl | rfl
              · exact ⟨"still", by decide, rfl⟩
              · exact ⟨"drift", by decide, rfl⟩
            refine w_ixT (SqT.of (kk23 _ _ h22 (pen21.ne n22).1)) ew ?_
            walk_at "go"
            refine ⟨_, _, _, rfl, ?_⟩
            walk_at "go"
            refine ⟨p, l, cells, n + 41, rfl, pen23, by omega, fun z H24 nz pen24 k24 => ?_⟩
            walk_at "go"
            refine new (show 4 ≤ sizeLine by decide) fun o2 H25 n25 h25 s25 => ?_
            exact ⟨⟨"keep", "none", w', o2, _, _, _, _, _, rfl, by decide, by decide, mw', h25, (pen24.ne n25).1, scN, scN, scN, nz.sc⟩, (pen24.same s25).mono (by omega), fun b o e nb => s25 _ _ (k24 b o (k23 b o e nb) nb)⟩
          · rw [decide_eq_false fun z => h1 (V.int.inj z)]
            refine iteF ?_
            have op : o ≠ p := ((pen17.same s20).ne n21).1
            walk_at "go"
            refine ⟨rfl, ?_⟩
            by_cases hv : y2 = .non
            · rw [decide_eq_true hv]
              refine ⟨false, rfl, iteF ?_⟩
              exact ⟨⟨gt, pt, ow, o, _, _, _, _, _, rfl, mg, mp, mo, h21, op, c0', c1', c2', scN⟩, pen21.mono (by omega), k21⟩
            · rw [decide_eq_false hv]
              refine ⟨true, rfl, iteT ?_⟩
              walk_at "go"
              refine new (show 3 ≤ sizeLine by decide) fun a22 H22 n22 h22 s22 => ?_
              walk_at "go"
              refine ⟨a22, _, rfl, SqT.of h22, rfl, _, _, rfl, _, _, rfl, _, _, rfl, rfl, ?_⟩
              exact ⟨⟨"keep", "store", "still", o, _, _, _, _, _, rfl, by decide, by decide, by decide, s22 _ _ h21, op, c0', c1', c2', scN⟩, (pen21.same s22).mono (by omega), fun b o e nb => s22 _ _ (k21 b o e nb)⟩
        · rintro σ' H' ⟨⟨g', p', w', o', z0, z1, z2, z3, v9, rfl, mg', mp', mw', ho', op', e0, e1, e2, e3⟩, pen24, k24⟩
          refine w_mid (fun σ' H2 => (∃ bg' : Int, σ' = [some (.ref p), some (.int ch), some (.int (1 + sp)), some (.int ba), some (.str g'), some (.str p'), some (.str w'), some (.int bg'), some (.ref o'), v9]) ∧ H2 = H') ?_ ?_
          · walk_at "go"
            refine ite2 (fun _ => ?_) (fun _ => ?_)
            · walk_at "go"
              exact ⟨⟨_, rfl⟩, rfl⟩
            · exact ⟨⟨_, rfl⟩, rfl⟩
          · rintro σ' H2 ⟨⟨bg', rfl⟩, rfl⟩
            walk_at "go"
            refine ⟨p, l, cells, n + 60, rfl, pen24, by omega, fun z H22 nz pen22 k22 => ?_⟩
            have kp22 : Kp p H H22 := fun b o e nb => k22 b o (k24 b o e nb) nb
            walk_at "go"
            refine new (show 7 ≤ sizeLine by decide) fun t H23 n23 h23 s23 => ?_
            walk_at "go"
            refine w_cat h23 (s23 _ _ (k22 _ _ ho' op')) rfl (show 11 ≤ sizeLine by decide) fun u H24 n24 h24 s24 => ?_
            have kp23 : Kp p H H23 := fun b o e nb => s23 _ _ (kp22 b o e nb)
            refine q u _ H24 rfl (fun x hx => ?_) (bk kp23 (pen22.same s23) n24) h24 (((pen22.same s23).same s24).mono (by omega)) fun b o e nb => s24 _ _ (kp23 b o e nb)
            simp only [List.cons_append, List.nil_append, List.mem_cons, List.not_mem_nil, or_false] at hx
            rcases hx with rfl | rfl | rfl | rfl | rfl | rfl | rfl | rfl | rfl | rfl | rfl <;> first | exact nz.sc | assumption | exact scI _ | exact scW _ (.inl ‹_›) | exact scW _ (.inr (.inl ‹_›)) | exact scW _ (.inr (.inr ‹_›))
end
end Law

set_option Elab.async false
set_option linter.all false
set_option maxRecDepth 100000
set_option maxHeartbeats 4000000
namespace Law
open PySem PySem.Spec PySem.Calls PyProof.Rows L2 KG LamX
local macro_rules | `(tactic| walk_at "1") => `(tactic| first
  | (with_reducible refine w_var rfl ?_) | (with_reducible refine w_c ?_) | (with_reducible refine w_seq ?_) | (with_reducible refine w_asg ?_) | (with_reducible refine w_gname ?_) | (with_reducible refine w_op ?_) | (with_reducible refine w_un ?_)
  | (with_reducible refine w_add ?_) | (with_reducible refine w_sub ?_) | ((with_reducible refine' w_mod ?mo ?_); (case mo => first | assumption | decide | omega)) | (with_reducible refine w_and ?_) | (with_reducible refine w_or ?_) | (with_reducible refine w_xor ?_)
  | (with_reducible refine w_gt ?_) | (with_reducible refine w_lt ?_) | (with_reducible refine w_ge ?_) | (with_reducible refine w_le ?_) | ((with_reducible refine' w_eq ?sc ?_); (case sc => rfl)) | ((with_reducible refine' w_ne ?sc ?_); (case sc => rfl))
  | (with_reducible refine w_ret ?_) | (with_reducible refine w_next ?_) | (with_reducible refine w_ifs ?_) | (with_reducible refine w_ifx ?_) | (with_reducible refine w_test ?_) | (with_reducible refine w_tB ?_) | (with_reducible refine w_bl ?_)
  | ((with_reducible refine' w_ixL ?ixh ?ixa ?_); (case ixh => first | exact SqL.of (by assumption)); (case ixa => first | rfl | skip)) | ((with_reducible refine' w_ixT ?ixh ?ixa ?_); (case ixh => first | exact SqT.of (by assumption)); (case ixa => first | rfl | skip))
  | ((with_reducible refine' w_fld ?_)) | ((with_reducible refine' fld ?fh ?fc ?fn ?fl ?_); (case fh => assumption); (case fc => assumption); (case fn => assumption); (case fl => rfl)) | (with_reducible refine w_sfld ?_)
  | (with_reducible refine Or.inl ⟨_, rfl, ?_⟩) | (with_reducible refine w_gsub ?_) | (with_reducible refine w_andV ?_) | (with_reducible refine w_orV ?_)
  | (with_reducible refine w_nil ?_) | (with_reducible refine w_cons ?_) | (with_reducible refine w_tup ?_) | (with_reducible refine w_lst ?_) | (with_reducible refine w_and2 ?_) | (with_reducible refine w_or2 ?_) | (with_reducible refine w_not ?_) | (with_reducible refine w_cb ?_) | (with_reducible refine w_call ?_) | (with_reducible refine w_par ?_) | (with_reducible refine w_pnil ?_) | (with_reducible refine w_pcons ?_) | (with_reducible refine w_dput ?_) | (with_reducible refine w_dget ?_) | (with_reducible refine w_for ?_) | (with_reducible refine w_itup ?_) | (with_reducible refine w_ilist ?_) | (with_reducible refine w_irng ?_) | (with_reducible refine w_meth ?_) | (with_reducible refine w_make ?_) | (with_reducible refine w_makeK ?_) | (with_reducible refine w_methK ?_) | ((with_reducible refine' mth ?mh ?ml ?_); (case mh => assumption); (case ml => rfl)) | (with_reducible refine w_drop ?_))
local macro_rules | `(tactic| walk_at "go") => `(tactic| ((repeat (walk_at "1")); try dsimp only))
local macro_rules | `(tactic| walk_at "1") => `(tactic| first
  | (with_reducible refine w_notV ?_) | (with_reducible refine w_callK ?_) | (with_reducible refine w_lc ?_) | (with_reducible refine w_chain ?_) | (with_reducible refine w_neg ?_) | ((with_reducible refine' w_shr ?mo ?_); (case mo => first | assumption | omega)))
/-- the odd values that the law draws -/
def OddO (H : Hp) (o : HO) : Prop := o = .tup [.str "A"] ∨ o = .lst [.str "A"] ∨ o = .dK [(.inr "A", .int 1)] ∨ o = .lst [] ∨ o = .tup [] ∨ ∃ b c : Addr, o = .lst [.ref b, .ref c] ∧ H b = some (.lst [.int 1]) ∧ H c = some (.tup [.str "keep"])
def Odd (H : Hp) (x : V) : Prop := Sc x ∨ (∃ b, x = .bl b) ∨ ∃ a o, x = .ref a ∧ H a = some o ∧ OddO H o
theorem OddO.no {H : Hp} {o : HO} (h : OddO H o) : ∀ C dx fs, o ≠ .ins C dx fs := by
  rcases h with rfl | rfl | rfl | rfl | rfl | ⟨b, c, rfl, _⟩ <;> exact fun _ _ _ => nofun
theorem Odd.si {H H' : Hp} {x : V} (h : Odd H x) (s : SamI H H') : Odd H' x := by
  rcases h with h | h | ⟨a, o, e, ha, h⟩
  · exact .inl h
  · exact .inr (.inl h)
  · refine .inr (.inr ⟨a, o, e, s _ _ ha h.no, ?_⟩)
    rcases h with h | h | h | h | h | ⟨b, c, e1, hb, hc⟩
    · exact .inl h
    · exact .inr (.inl h)
    · exact .inr (.inr (.inl h))
    · exact .inr (.inr (.inr (.inl h)))
    · exact .inr (.inr (.inr (.inr (.inl h))))
    · exact .inr (.inr (.inr (.inr (.inr ⟨b, c, e1, s _ _ hb nofun, s _ _ hc nofun⟩))))
theorem Odd.od {K : PySem.W.Frag} {H : Hp} {x : V} (h : Odd H x) : OdV K H x := by
  intro H' s
  have h := h.si s
  rcases h with h | ⟨b, rfl⟩ | ⟨a, o, rfl, ha, h⟩
  · exact (h.od (K := K) (H := H')).at_
  · exact ⟨⟨_, .base (.bl b), by cases b <;> decide +kernel, by cases b <;> decide +kernel, by cases b <;> decide +kernel⟩, .inl ⟨_, .bl b, by simp [PyData.canLay0], by simp [PyData.depth], fun y => ⟨nofun, nofun⟩⟩, nofun⟩
  · have tT : ∀ {xs : List V}, H' a = some (.tup xs) → ∃ t, TyX K H' (.ref a) (.type t) ∧ kitB t "int" = some false ∧ kitB t "bool" = some false ∧ kitB t "str" = some false := fun h => ⟨"tuple", .base (.tup h), by decide +kernel, by decide +kernel, by decide +kernel⟩
    have tL : ∀ {xs : List V}, H' a = some (.lst xs) → ∃ t, TyX K H' (.ref a) (.type t) ∧ kitB t "int" = some false ∧ kitB t "bool" = some false ∧ kitB t "str" = some false := fun h => ⟨"list", .base (.lst h), by decide +kernel, by decide +kernel, by decide +kernel⟩
    have lay : PyData.strOk "A" = true ∧ PyData.strOk "keep" = true := by decide +kernel
    rcases h with rfl | rfl | rfl | rfl | rfl | ⟨b, c, rfl, hb, hc⟩
    · exact ⟨tT ha, .inl ⟨_, .tup ha (.cons (.str _) .nil), by simp [PyData.canLay0, PyData.canLayAll0, lay.1], by simp [PyData.depth, PyData.depthAll], fun y => ⟨nofun, nofun⟩⟩, nofun⟩
    · exact ⟨tL ha, .inl ⟨_, .lst ha (.cons (.str _) .nil), by simp [PyData.canLay0, PyData.canLayAll0, lay.1], by simp [PyData.depth, PyData.depthAll], fun y => ⟨nofun, nofun⟩⟩, nofun⟩
    · exact ⟨⟨"dict", .base (.dK ha), show kitB "dict" "int" = some false by decide +kernel, show kitB "dict" "bool" = some false by decide +kernel, show kitB "dict" "str" = some false by decide +kernel⟩, .inr ⟨a, _, rfl, ha⟩, nofun⟩
    · exact ⟨tL ha, .inl ⟨_, .lst ha .nil, by simp [PyData.canLay0, PyData.canLayAll0], by simp [PyData.depth, PyData.depthAll], fun y => ⟨nofun, nofun⟩⟩, nofun⟩
    · exact ⟨tT ha, .inl ⟨_, .tup ha .nil, by simp [PyData.canLay0, PyData.canLayAll0], by simp [PyData.depth, PyData.depthAll], fun y => ⟨nofun, nofun⟩⟩, nofun⟩
    · exact ⟨tL ha, .inl ⟨_, .lst ha (.cons (.lst hb (.cons (.int _) .nil)) (.cons (.tup hc (.cons (.str _) .nil)) .nil)), by simp [PyData.canLay0, PyData.canLayAll0, lay.2], by simp [PyData.depth, PyData.depthAll], fun y => ⟨nofun, nofun⟩⟩, nofun⟩
end Law

set_option Elab.async false
set_option linter.all false
set_option maxRecDepth 100000
set_option maxHeartbeats 1000000
/-! KTX: a text times a number. -/
namespace KG
open PySem PySem.Spec PySem.Calls PyProof.Rows L2
theorem fold_size (a : Array Nat) : ∀ (k : Nat) (acc : Array Nat), ((List.replicate k a).foldl (· ++ ·) acc).size = acc.size + k * a.size
  | 0, acc => by simp
  | k + 1, acc => by
    rw [List.replicate_succ, List.foldl_cons, fold_size a k, Array.size_append, Nat.succ_mul]
    omega
section
variable {X : Cx}
def rTxRep : R2 := fun x y H Q => ∃ (z : Str) (n : Int), x = .str z ∧ y = .int n ∧ 2 ≤ n ∧ n ≤ 1000 ∧ 1 ≤ z.length ∧ z.length ≤ 1000 ∧ Q (.str ⟨(List.replicate n.toNat z.cps).foldl (· ++ ·) #[]⟩) H
theorem op_strRep : OpR X (binaryOp .Mult) rTxRep := by
  intro pins s σ H x y v u Q I rx ry h
  obtain ⟨z, n, rfl, rfl, n2, n1000, z1, z1000, q⟩ := h
  obtain ⟨t, rfl⟩ := rx
  obtain ⟨t', rfl⟩ := ry
  have hn : ¬ n < 1 := by omega
  have hz : (n == 1 || z.length == 0) = false := by
    rw [Bool.or_eq_false_iff]
    exact ⟨beq_eq_false_iff_ne.mpr (by omega), beq_eq_false_iff_ne.mpr (by omega)⟩
  have fits : z.length * n.toNat ≤ 1000 * 1000 := Nat.mul_le_mul z1000 (by omega)
  refine PySem.P.mul_str ?_ (fun _ _ => ?_) (fun _ _ => ?_) ?_
  · rw [decide_eq_false (by omega), decide_eq_false (by omega)]
    rfl
  · have : (2 ^ 63 - 1) / 1000 ≤ (2 ^ 63 - 1 : Int) / n := by
      refine Int.le_ediv_of_mul_le (by omega) ?_
      have : (2 ^ 63 - 1 : Int) / 1000 * n ≤ (2 ^ 63 - 1 : Int) / 1000 * 1000 := Int.mul_le_mul_of_nonneg_left n1000 (by decide)
      omega
    omega
  · show decide (z.length * n.toNat > sizeLine) = false
    rw [sizeLine_eq]
    exact decide_eq_false (by omega)
  · rw [if_neg hn, hz, if_neg Bool.false_ne_true]
    refine ⟨?_, .str _, H, I.tok _, ⟨_, rfl⟩, q⟩
    show ((List.replicate n.toNat z.cps).foldl (· ++ ·) #[]).size ≤ sizeLine
    rw [fold_size, sizeLine_eq]
    have : z.cps.size = z.length := rfl
    rw [this, Array.size_empty, Nat.mul_comm]
    omega
end
end KG

set_option Elab.async false
set_option linter.all false
set_option maxRecDepth 100000
set_option maxHeartbeats 4000000
namespace Law
open PySem PySem.Spec PySem.Calls PyProof.Rows L2 KG LamX
local macro_rules | `(tactic| walk_at "1") => `(tactic| first
  | (with_reducible refine w_var rfl ?_) | (with_reducible refine w_c ?_) | (with_reducible refine w_seq ?_) | (with_reducible refine w_asg ?_) | (with_reducible refine w_gname ?_) | (with_reducible refine w_op ?_) | (with_reducible refine w_un ?_)
  | (with_reducible refine w_add ?_) | (with_reducible refine w_sub ?_) | ((with_reducible refine' w_mod ?mo ?_); (case mo => first | assumption | decide | omega)) | (with_reducible refine w_and ?_) | (with_reducible refine w_or ?_) | (with_reducible refine w_xor ?_)
  | (with_reducible refine w_gt ?_) | (with_reducible refine w_lt ?_) | (with_reducible refine w_ge ?_) | (with_reducible refine w_le ?_) | ((with_reducible refine' w_eq ?sc ?_); (case sc => rfl)) | ((with_reducible refine' w_ne ?sc ?_); (case sc => rfl))
  | (with_reducible refine w_ret ?_) | (with_reducible refine w_next ?_) | (with_reducible refine w_ifs ?_) | (with_reducible refine w_ifx ?_) | (with_reducible refine w_test ?_) | (with_reducible refine w_tB ?_) | (with_reducible refine w_bl ?_)
  | ((with_reducible refine' w_ixL ?ixh ?ixa ?_); (case ixh => first | exact SqL.of (by assumption)); (case ixa => first | rfl | skip)) | ((with_reducible refine' w_ixT ?ixh ?ixa ?_); (case ixh => first | exact SqT.of (by assumption)); (case ixa => first | rfl | skip))
  | ((with_reducible refine' w_fld ?_)) | ((with_reducible refine' fld ?fh ?fc ?fn ?fl ?_); (case fh => assumption); (case fc => assumption); (case fn => assumption); (case fl => rfl)) | (with_reducible refine w_sfld ?_)
  | (with_reducible refine Or.inl ⟨_, rfl, ?_⟩) | (with_reducible refine w_gsub ?_) | (with_reducible refine w_andV ?_) | (with_reducible refine w_orV ?_)
  | (with_reducible refine w_nil ?_) | (with_reducible refine w_cons ?_) | (with_reducible refine w_tup ?_) | (with_reducible refine w_lst ?_) | (with_reducible refine w_and2 ?_) | (with_reducible refine w_or2 ?_) | (with_reducible refine w_not ?_) | (with_reducible refine w_cb ?_) | (with_reducible refine w_call ?_) | (with_reducible refine w_par ?_) | (with_reducible refine w_pnil ?_) | (with_reducible refine w_pcons ?_) | (with_reducible refine w_dput ?_) | (with_reducible refine w_dget ?_) | (with_reducible refine w_for ?_) | (with_reducible refine w_itup ?_) | (with_reducible refine w_ilist ?_) | (with_reducible refine w_irng ?_) | (with_reducible refine w_meth ?_) | (with_reducible refine w_make ?_) | (with_reducible refine w_makeK ?_) | (with_reducible refine w_methK ?_) | ((with_reducible refine' mth ?mh ?ml ?_); (case mh => assumption); (case ml => rfl)) | (with_reducible refine w_drop ?_))
local macro_rules | `(tactic| walk_at "go") => `(tactic| ((repeat (walk_at "1")); try dsimp only))
local macro_rules | `(tactic| walk_at "1") => `(tactic| first
  | (with_reducible refine w_notV ?_) | (with_reducible refine w_callK ?_) | (with_reducible refine w_lc ?_) | (with_reducible refine w_chain ?_) | (with_reducible refine w_neg ?_) | ((with_reducible refine' w_shr ?mo ?_); (case mo => first | assumption | omega)))
def spOdd : Sp := fun vs H Q _ => ∃ (p l : Addr) (cells : List Int) (n : Nat), vs = [.ref p] ∧ PenC n p l cells H ∧ n + 2 ≤ 100000 ∧ ∀ (x : V) H', Odd H' x → PenC (n + 1) p l cells H' → Kp p H H' → Q x H'
theorem PenC.nel {n : Nat} {p l a : Addr} {cells : List Int} {H : Hp} {xs : List V} (pen : PenC n p l cells H) (h : H a = some (.lst xs)) (hx : xs.length ≠ 3) : a ≠ p := fun z => by
  obtain ⟨_, _, _, _, _, y⟩ := pen
  rw [z, y] at h
  cases h
  exact hx rfl
theorem Odd.kt {H H' : Hp} {x : V} (kp : ∀ b o, H b = some o → (∀ xs, o = .lst xs → xs.length ≤ 2) → H' b = some o) (h : Odd H x) : Odd H' x := by
  rcases h with h | h | ⟨a, o, e, ha, h⟩
  · exact .inl h
  · exact .inr (.inl h)
  · rcases h with rfl | rfl | rfl | rfl | rfl | ⟨b, c, rfl, hb, hc⟩
    · exact .inr (.inr ⟨a, _, e, kp _ _ ha (by intro xs z; cases z), .inl rfl⟩)
    · exact .inr (.inr ⟨a, _, e, kp _ _ ha (by intro xs z; cases z; decide), .inr (.inl rfl)⟩)
    · exact .inr (.inr ⟨a, _, e, kp _ _ ha (by intro xs z; cases z), .inr (.inr (.inl rfl))⟩)
    · exact .inr (.inr ⟨a, _, e, kp _ _ ha (by intro xs z; cases z; decide), .inr (.inr (.inr (.inl rfl)))⟩)
    · exact .inr (.inr ⟨a, _, e, kp _ _ ha (by intro xs z; cases z), .inr (.inr (.inr (.inr (.inl rfl))))⟩)
    · exact .inr (.inr ⟨a, _, e, kp _ _ ha (by intro xs z; cases z; simp), .inr (.inr (.inr (.inr (.inr ⟨b, c, rfl, kp _ _ hb (by intro xs z; cases z; decide), kp _ _ hc (by intro xs z; cases z)⟩))))⟩)
theorem Odd.kp {n : Nat} {p l : Addr} {cells : List Int} {H H' : Hp} {x : V} (pen : PenC n p l cells H) (k : Kp p H H') (h : Odd H x) : Odd H' x := h.kt fun b o e no => k b o e fun z => by
  obtain ⟨_, _, _, _, _, y⟩ := pen
  rw [z, y] at e
  cases e
  exact absurd (no _ rfl) (by show ¬ 3 ≤ 2; decide)
theorem at_any {l : List V} {i : Int} (h0 : 0 ≤ i) (h1 : i < (l.length : Int)) : ∃ x, x ∈ l ∧ atI l i = some x := by
  have h : i.toNat < l.length := by omega
  exact ⟨l[i.toNat], List.getElem_mem h, at_of (j := i.toNat) (by omega) (List.getElem?_eq_getElem h)⟩
section
variable {P : Program} {w : World} {K : PySem.W.Frag} {mg : Str → Option Value} {base : Heap}
theorem ok_odd (D : DefAt K mg "_law_odd" s__law_odd ["_law_pen_here"]) (B : B1 mg) (c_law_draw : Cal P w K mg base 1 "_law_draw" spDraw) : Cal P w K mg base 2 "_law_odd" spOdd := by
  refine D.cal (k := 1) sc__law_odd (fun vs H Q E h => ?_) (fun f cdv A outer s0 H vs Q E rm gd h => ?_)
  · obtain ⟨p, l, cells, n, rfl, _⟩ := h
    rfl
  · obtain ⟨p, l, cells, n, rfl, pen, hn, q⟩ := h
    refine ⟨_, (pss_cons (ps_set (i := 1) sc__law_odd.nd rfl (Or.inl rfl) (pe_lst (pa_cons pe_non (pa_cons pe_bl (pa_cons pe_bl (pa_cons (pe_un un_neg pe_int) (pa_cons pe_int (pa_cons pe_int (pa_cons pe_int (pa_cons pe_int (pa_cons (pe_op op_pow pe_int pe_int) (pa_cons pe_str (pa_cons pe_str (pa_cons pe_str (pa_cons pe_str (pa_cons pe_str (pa_cons pe_str (pa_cons (pe_op op_strRep pe_str pe_int) (pa_cons pe_str (pa_cons pe_str (pa_cons pe_str (pa_cons pe_str (pa_cons pe_str (pa_cons pe_str (pa_cons pe_str (pa_cons pe_str (pa_cons pe_str (pa_cons (pe_tup (pa_cons pe_str pa_nil)) (pa_cons (pe_lst (pa_cons pe_str pa_nil)) (pa_cons (pe_disp (pps_cons pe_str pe_int pps_nil) (by rfl) (by rfl) (fun z => by cases z) (by decide)) (pa_cons (pe_lst pa_nil) (pa_cons (pe_tup pa_nil) (pa_cons (pe_lst (pa_cons (pe_lst (pa_cons pe_int pa_nil)) (pa_cons (pe_tup (pa_cons pe_str pa_nil)) pa_nil))) (pa_cons pe_str pa_nil))))))))))))))))))))))))))))))))))
    (pss_one (ps_ret (pe_ix ix_list (pv 1) (pc c_law_draw rm (by decide) gd rfl (pa_cons (pv 0) (pa_cons (pe_callB call_len_seq (by rfl) B.g_len (by decide +kernel) (pa_cons (pv 1) pa_nil)) pa_nil))) (fun _ _ => rfl))))), ?_⟩
    walk_at "go"
    refine w_pow ⟨by decide, by decide⟩ ?_
    walk_at "go"
    refine ⟨"A", 9, rfl, rfl, by decide, by decide, by decide, by decide, ?_⟩
    walk_at "go"
    refine new (show 1 ≤ sizeLine by decide) fun a1 H1 n1 h1 s1 => ?_
    walk_at "go"
    refine new (show 1 ≤ sizeLine by decide) fun a2 H2 n2 h2 s2 => ?_
    walk_at "go"
    refine w_disp fun p3 H3 n3 h3 s3 => ?_
    walk_at "go"
    refine dall [(.inr "A", .int 1)] h3 rfl (by decide) rfl fun H4 h4 e4 => ?_
    walk_at "go"
    refine new (show 0 ≤ sizeLine by decide) fun a5 H5 n5 h5 s5 => ?_
    walk_at "go"
    refine new (show 0 ≤ sizeLine by decide) fun a6 H6 n6 h6 s6 => ?_
    walk_at "go"
    refine new (show 1 ≤ sizeLine by decide) fun a7 H7 n7 h7 s7 => ?_
    walk_at "go"
    refine new (show 1 ≤ sizeLine by decide) fun a8 H8 n8 h8 s8 => ?_
    walk_at "go"
    refine new (show 2 ≤ sizeLine by decide) fun a9 H9 n9 h9 s9 => ?_
    walk_at "go"
    refine new (show 32 ≤ sizeLine by decide) fun aL HL nL hL sL => ?_
    walk_at "go"
    have s34 : ∀ b o, H2 b = some o → H4 b = some o := fun b o e => (e4 b (ne_of_none e n3)).trans (s3 _ _ e)
    have sE : Same H4 HL := s5.trans (s6.trans (s7.trans (s8.trans (s9.trans sL))))
    have sA : Same H HL := fun b o e => sE _ _ (s34 _ _ (s2 _ _ (s1 _ _ e)))
    have penL := pen.same sA
    have g1 := sA
    have o1 : HL a1 = _ := sE _ _ (s34 _ _ (s2 _ _ h1))
    have o2 : HL a2 = _ := sE _ _ (s34 _ _ h2)
    have o4 : HL p3 = _ := sE _ _ h4
    have o5 : HL a5 = _ := sL _ _ (s9 _ _ (s8 _ _ (s7 _ _ (s6 _ _ h5))))
    have o6 : HL a6 = _ := sL _ _ (s9 _ _ (s8 _ _ (s7 _ _ h6)))
    have o7 : HL a7 = _ := sL _ _ (s9 _ _ (s8 _ _ h7))
    have o8 : HL a8 = _ := sL _ _ (s9 _ _ h8)
    have o9 : HL a9 = _ := sL _ _ h9
    refine ⟨aL, _, rfl, .inl (SqL.of hL), ?_⟩
    walk_at "go"
    refine ⟨p, l, cells, n, _, rfl, penL, by omega, (show (0 : Int) < ((32 : Nat) : Int) by decide), (show ((32 : Nat) : Int) < 1073741824 by decide), fun d HM d0 d1 penM kM => ?_⟩
    obtain ⟨x, mx, ex⟩ := at_any d0 d1
    refine w_ixL (SqL.of (kM _ _ hL (penL.nel hL (show 32 ≠ 3 by decide)))) ex ?_
    refine q x HM (Odd.kp penL kM ?_) penM fun b o e nb => kM _ _ (sA _ _ e) nb
    simp only [List.mem_cons, List.not_mem_nil, or_false] at mx
    rcases mx with rfl | rfl | rfl | rfl | rfl | rfl | rfl | rfl | rfl | rfl | rfl | rfl | rfl | rfl | rfl | rfl | rfl | rfl | rfl | rfl | rfl | rfl | rfl | rfl | rfl | rfl | rfl | rfl | rfl | rfl | rfl | rfl
    all_goals first
      | exact .inl (.inl rfl)
      | exact .inr (.inl ⟨_, rfl⟩)
      | exact .inl (.inr (.inl ⟨_, rfl⟩))
      | exact .inl (.inr (.inr ⟨_, rfl, by decide +kernel, by decide +kernel⟩))
      | exact .inr (.inr ⟨_, _, rfl, o1, .inl rfl⟩)
      | exact .inr (.inr ⟨_, _, rfl, o2, .inr (.inl rfl)⟩)
      | exact .inr (.inr ⟨_, _, rfl, o4, .inr (.inr (.inl rfl))⟩)
      | exact .inr (.inr ⟨_, _, rfl, o5, .inr (.inr (.inr (.inl rfl)))⟩)
      | exact .inr (.inr ⟨_, _, rfl, o6, .inr (.inr (.inr (.inr (.inl rfl))))⟩)
      | exact .inr (.inr ⟨_, _, rfl, o9, .inr (.inr (.inr (.inr (.inr ⟨_, _, rfl, o7, o8⟩))))⟩)
end
end Law

set_option Elab.async false
set_option linter.all false
set_option maxRecDepth 100000
set_option maxHeartbeats 4000000
namespace Law
open PySem PySem.Spec PySem.Calls PyProof.Rows L2 KG LamX
local macro_rules | `(tactic| walk_at "1") => `(tactic| first
  | (with_reducible refine w_var rfl ?_) | (with_reducible refine w_c ?_) | (with_reducible refine w_seq ?_) | (with_reducible refine w_asg ?_) | (with_reducible refine w_gname ?_) | (with_reducible refine w_op ?_) | (with_reducible refine w_un ?_)
  | (with_reducible refine w_add ?_) | (with_reducible refine w_sub ?_) | ((with_reducible refine' w_mod ?mo ?_); (case mo => first | assumption | decide | omega)) | (with_reducible refine w_and ?_) | (with_reducible refine w_or ?_) | (with_reducible refine w_xor ?_)
  | (with_reducible refine w_gt ?_) | (with_reducible refine w_lt ?_) | (with_reducible refine w_ge ?_) | (with_reducible refine w_le ?_) | ((with_reducible refine' w_eq ?sc ?_); (case sc => rfl)) | ((with_reducible refine' w_ne ?sc ?_); (case sc => rfl))
  | (with_reducible refine w_ret ?_) | (with_reducible refine w_next ?_) | (with_reducible refine w_ifs ?_) | (with_reducible refine w_ifx ?_) | (with_reducible refine w_test ?_) | (with_reducible refine w_tB ?_) | (with_reducible refine w_bl ?_)
  | ((with_reducible refine' w_ixL ?ixh ?ixa ?_); (case ixh => first | exact SqL.of (by assumption)); (case ixa => first | rfl | skip)) | ((with_reducible refine' w_ixT ?ixh ?ixa ?_); (case ixh => first | exact SqT.of (by assumption)); (case ixa => first | rfl | skip))
  | ((with_reducible refine' w_fld ?_)) | ((with_reducible refine' fld ?fh ?fc ?fn ?fl ?_); (case fh => assumption); (case fc => assumption); (case fn => assumption); (case fl => rfl)) | (with_reducible refine w_sfld ?_)
  | (with_reducible refine Or.inl ⟨_, rfl, ?_⟩) | (with_reducible refine w_gsub ?_) | (with_reducible refine w_andV ?_) | (with_reducible refine w_orV ?_)
  | (with_reducible refine w_nil ?_) | (with_reducible refine w_cons ?_) | (with_reducible refine w_tup ?_) | (with_reducible refine w_lst ?_) | (with_reducible refine w_and2 ?_) | (with_reducible refine w_or2 ?_) | (with_reducible refine w_not ?_) | (with_reducible refine w_cb ?_) | (with_reducible refine w_call ?_) | (with_reducible refine w_par ?_) | (with_reducible refine w_pnil ?_) | (with_reducible refine w_pcons ?_) | (with_reducible refine w_dput ?_) | (with_reducible refine w_dget ?_) | (with_reducible refine w_for ?_) | (with_reducible refine w_itup ?_) | (with_reducible refine w_ilist ?_) | (with_reducible refine w_irng ?_) | (with_reducible refine w_meth ?_) | (with_reducible refine w_make ?_) | (with_reducible refine w_makeK ?_) | (with_reducible refine w_methK ?_) | ((with_reducible refine' mth ?mh ?ml ?_); (case mh => assumption); (case ml => rfl)) | (with_reducible refine w_drop ?_))
local macro_rules | `(tactic| walk_at "go") => `(tactic| ((repeat (walk_at "1")); try dsimp only))
local macro_rules | `(tactic| walk_at "1") => `(tactic| first
  | (with_reducible refine w_notV ?_) | (with_reducible refine w_callK ?_) | (with_reducible refine w_lc ?_) | (with_reducible refine w_chain ?_) | (with_reducible refine w_neg ?_) | ((with_reducible refine' w_shr ?mo ?_); (case mo => first | assumption | omega)))
theorem low_asc {z : Str} (h : asc z = true) : asc (Txt.lower z) = true ∧ (Txt.lower z).length = z.length := by
  have hA : ∀ c ∈ z.cps.toList, c < 128 := fun c hc => of_decide_eq_true (List.all_eq_true.mp h c hc)
  rw [PyProof.Rows.lower_ascii hA]
  refine ⟨List.all_eq_true.mpr fun c hc => ?_, ?_⟩
  · have hc : c ∈ (z.cps.map PyProof.Rows.lo1).toList := hc
    rw [Array.toList_map] at hc
    obtain ⟨b, hb, rfl⟩ := List.mem_map.mp hc
    have := hA b hb
    refine decide_eq_true ?_
    unfold PyProof.Rows.lo1
    split <;> omega
  · show (z.cps.map PyProof.Rows.lo1).size = z.cps.size
    exact Array.size_map
theorem eleven {xs : List V} (h : xs.length = 11) : ∃ n lo sz r w d rs lk ky cm hd : V, xs = [n, lo, sz, r, w, d, rs, lk, ky, cm, hd] := by
  match xs, h with
  | [a, b, c, d, e, f, g, h, i, j, k], _ => exact ⟨a, b, c, d, e, f, g, h, i, j, k, rfl⟩
theorem ix_in {n : Nat} {i : Int} (h0 : 0 ≤ i) (h1 : i < n) : ixN n i = some i.toNat := by
  unfold ixN
  rw [if_pos h0, if_pos h1]
theorem mem_set {xs : List V} {j : Nat} {v x : V} (h : x ∈ xs.set j v) : x = v ∨ x ∈ xs := by
  rcases List.mem_or_eq_of_mem_set h with h | h
  · exact .inr h
  · exact .inl h
def spSpoil : Sp := fun vs H Q _ => ∃ (p l t : Addr) (cells : List Int) (n : Nat) (xs : List V), vs = [.ref p, .ref t] ∧ PenC n p l cells H ∧ n + 5 ≤ 100000 ∧ t ≠ p ∧ t ≠ l ∧ xs.length = 11 ∧ (∀ x ∈ xs, Odd H x) ∧ H t = some (.lst xs) ∧
  ∀ (ys : List V) H', ys.length = 11 → (∀ x ∈ ys, Odd H' x) → H' t = some (.lst ys) → PenC (n + 3) p l cells H' → (∀ b o, H b = some o → b ≠ p → b ≠ t → H' b = some o) → Q .non H'
section
variable {P : Program} {w : World} {K : PySem.W.Frag} {mg : Str → Option Value} {base : Heap}
theorem ok_spoil (D : DefAt K mg "_law_spoil" s__law_spoil ["_law_pen_here", "_law_parts"]) (B : B1 mg) (c_law_draw : Cal P w K mg base 1 "_law_draw" spDraw) (c_law_odd : Cal P w K mg base 2 "_law_odd" spOdd) (c_law_is_from : Cal P w K mg base 1 "_law_is_from" (spFr K)) : Cal P w K mg base 3 "_law_spoil" spSpoil := by
  refine D.cal (k := 2) sc__law_spoil (fun vs H Q E h => ?_) (fun f cdv A outer s0 H vs Q E rm gd h => ?_)
  · obtain ⟨p, l, t, cells, n, xs, rfl, _⟩ := h
    rfl
  · obtain ⟨p, l, t, cells, n, xs, rfl, pen, hn, tp, tl, hx, od, ht, q⟩ := h
    obtain ⟨x0, x1, x2, x3, x4, x5, x6, x7, x8, x9, x10, rfl⟩ := eleven hx
    refine ⟨_, (pss_cons (ps_set (i := 2) sc__law_spoil.nd rfl (Or.inl rfl) (pc c_law_draw rm (by decide) gd rfl (pa_cons (pv 0) (pa_cons pe_int pa_nil))))
    (pss_cons (ps_set (i := 3) sc__law_spoil.nd rfl (Or.inl rfl) (pe_ix ix_list (pe_lst (pa_cons pe_str (pa_cons pe_int (pa_cons pe_int (pa_cons pe_str (pa_cons pe_str (pa_cons pe_str (pa_cons pe_int (pa_cons pe_str (pa_cons (pe_op op_strRep pe_str pe_int) (pa_cons pe_str (pa_cons pe_str pa_nil)))))))))))) (pv 2) (fun _ _ => rfl)))
    (pss_mid (ps_if (PW.pt (pw_and (pt_cmpR op_eq (pv 2) pe_int (nomark _)) (pw_and1 (pt_val (pe_callB call_isi (by rfl) B.g_isinstance (by decide +kernel) (pa_cons (pe_ix ix_list (pv 1) pe_int (fun _ _ => rfl)) (pa_cons (pe_bltn (v := .ty "str") rfl B.g_str (by decide +kernel) rfl) pa_nil)))))))
      (pss_one (ps_set (i := 3) sc__law_spoil.nd rfl (Or.inl rfl) (pe_bm0 PySem.F.plainAttrs_str PySem.F.slot_str_lower PySem.F.type_str_lower mt_lower (pe_ix (r := rIxL K) ix_list (pv 1) pe_int (fun _ _ => rfl)))))
      pss_nil)
    (pss_mid (ps_if (PW.pt (pw_and (pt_cmpR op_eq (pv 2) pe_int (nomark _)) (pw_and1 (pt_val (pc c_law_is_from rm (by decide) gd rfl (pa_cons (pe_ix ix_list (pv 1) pe_int (fun _ _ => rfl)) (pa_cons pe_int (pa_cons pe_int pa_nil))))))))
      (pss_one (ps_set (i := 3) sc__law_spoil.nd rfl (Or.inl rfl) (pe_op op_sub pe_int (pe_ix ix_list (pv 1) pe_int (fun _ _ => rfl)))))
      pss_nil)
    (pss_mid (ps_if (PW.pt (pw_and (pt_cmpR op_eq (pv 2) pe_int (nomark _)) (pw_and1 (pt_val (pc c_law_is_from rm (by decide) gd rfl (pa_cons (pe_ix ix_list (pv 1) pe_int (fun _ _ => rfl)) (pa_cons pe_int (pa_cons pe_int pa_nil))))))))
      (pss_one (ps_set (i := 3) sc__law_spoil.nd rfl (Or.inl rfl) (pe_op op_shl pe_int (pe_ix ix_list (pv 1) pe_int (fun _ _ => rfl)))))
      pss_nil)
    (pss_one (ps_asg (pe_ix ix_list (pe_lst (pa_cons (pv 3) (pa_cons (pc c_law_odd rm (by decide) gd rfl (pa_cons (pv 0) pa_nil)) pa_nil))) (pc c_law_draw rm (by decide) gd rfl (pa_cons (pv 0) (pa_cons pe_int pa_nil))) (fun _ _ => rfl)) (pg_sub (pv 1) (pv 2) set_list)))))))), ?_⟩
    walk_at "go"
    refine ⟨p, l, cells, n, 11, rfl, pen, by omega, by decide, by decide, fun at_ H1 a0 a1 pen1 k1 => ?_⟩
    walk_at "go"
    refine ⟨"B", 9, rfl, rfl, by decide, by decide, by decide, by decide, ?_⟩
    walk_at "go"
    refine new (show 11 ≤ sizeLine by decide) fun a2 H2 n2 h2 s2 => ?_
    walk_at "go"
    obtain ⟨nr, mn, en⟩ := at_any (l := [V.str "a", .int 32, .int 17, .str "keeps", .str "clear", .str "", .int 1, .str "b", .str ⟨(List.replicate (9 : Int).toNat ("B" : Str).cps).foldl (· ++ ·) #[]⟩, .str "C", .str "D"]) a0 a1
    refine w_ixL (SqL.of h2) en ?_
    have scN : Sc nr := by
      simp only [List.mem_cons, List.not_mem_nil, or_false] at mn
      rcases mn with rfl | rfl | rfl | rfl | rfl | rfl | rfl | rfl | rfl | rfl | rfl <;> first | exact .inr (.inl ⟨_, rfl⟩) | exact .inr (.inr ⟨_, rfl, by decide +kernel, by decide +kernel⟩)
    have s12 : Same H1 H2 := s2
    have e12 : ∀ b o, H b = some o → b ≠ p → H2 b = some o := fun b o e nb => s2 _ _ (k1 b o e nb)
    have ht2 := e12 _ _ ht tp
    have pen2 := pen1.same s2
    have od2 : ∀ x ∈ [x0, x1, x2, x3, x4, x5, x6, x7, x8, x9, x10], Odd H2 x := fun x hx => ((od x hx).kp pen k1).kt fun b o e _ => s2 b o e
    walk_at "go"
    refine w_mid (fun σ' H' => H2 = H' ∧ ∃ nr' : V, Sc nr' ∧ σ' = [some (.ref p), some (.ref t), some (.int at_), some nr']) ?_ ?_
    · walk_at "go"
      refine ite2 (fun h0 => ?_) (fun h0 => ?_)
      · walk_at "go"
        have o0 := od2 x0 (.head _)
        obtain ⟨ty0, tx, _, _, k3⟩ := (o0.od (K := K)).at_.ty
        refine ⟨x0, .ty "str", .type ty0, .type "str", _, rfl, .ty _, tx, kit_ty k3, _, rfl, ?_⟩
        cases hS : isS x0 with
        | false =>
          refine iteF ?_
          walk_at "go"
          exact ⟨rfl, nr, scN, rfl⟩
        | true =>
          obtain ⟨z, rfl⟩ : ∃ z, x0 = .str z := by
            cases x0 <;> first | exact ⟨_, rfl⟩ | cases hS
          have sz : z.length ≤ 100 ∧ asc z = true := by
            rcases o0 with h | ⟨b, h⟩ | ⟨a, o, h, _⟩
            · rcases h with h | ⟨i, h⟩ | ⟨y, h, r⟩
              · cases h
              · cases h
              · cases h
                exact r
            · cases h
            · cases h
          refine iteT ?_
          walk_at "go"
          unfold tBM0
          walk_at "go"
          refine ⟨?_, z, rfl, rfl, Nat.le_trans sz.1 (by decide), ?_⟩
          · rfl
          walk_at "go"
          exact ⟨rfl, _, .inr (.inr ⟨_, rfl, by rw [(low_asc sz.2).2]; exact sz.1, (low_asc sz.2).1⟩), rfl⟩
      · refine iteF ?_
        walk_at "go"
        exact ⟨rfl, nr, scN, rfl⟩
    · rintro σ1 H1' ⟨rfl, nr1, sc1, rfl⟩
      refine w_mid (fun σ' H' => H2 = H' ∧ ∃ nr' : V, Sc nr' ∧ σ' = [some (.ref p), some (.ref t), some (.int at_), some nr']) ?_ ?_
      · walk_at "go"
        refine ite2 (fun h0 => ?_) (fun h0 => ?_)
        · walk_at "go"
          refine ⟨x2, 1, 16, rfl, (od2 x2 (.tail _ (.tail _ (.head _)))).od, _, rfl, ?_⟩
          cases hF : isFr 1 16 x2 with
          | false =>
            refine iteF ?_
            walk_at "go"
            exact ⟨rfl, _, sc1, rfl⟩
          | true =>
            obtain ⟨sz, rfl, z1, z16⟩ := fr_int hF
            refine iteT ?_
            walk_at "go"
            exact ⟨rfl, _, .inr (.inl ⟨_, rfl⟩), rfl⟩
        · refine iteF ?_
          walk_at "go"
          exact ⟨rfl, _, sc1, rfl⟩
      rintro σ1 H1' ⟨rfl, nr2, sc2, rfl⟩
      walk_at "go"
      refine w_mid (fun σ' H' => H2 = H' ∧ ∃ nr' : V, Sc nr' ∧ σ' = [some (.ref p), some (.ref t), some (.int at_), some nr']) ?_ ?_
      · walk_at "go"
        refine ite2 (fun h0 => ?_) (fun h0 => ?_)
        · walk_at "go"
          refine ⟨x2, 1, 16, rfl, (od2 x2 (.tail _ (.tail _ (.head _)))).od, _, rfl, ?_⟩
          cases hF : isFr 1 16 x2 with
          | false =>
            refine iteF ?_
            walk_at "go"
            exact ⟨rfl, _, sc2, rfl⟩
          | true =>
            obtain ⟨sz, rfl, z1, z16⟩ := fr_int hF
            refine iteT ?_
            walk_at "go"
            refine w_shl ⟨by omega, by omega, by decide⟩ ?_
            walk_at "go"
            exact ⟨rfl, _, .inr (.inl ⟨_, rfl⟩), rfl⟩
        · refine iteF ?_
          walk_at "go"
          exact ⟨rfl, _, sc2, rfl⟩
      rintro σ1 H1' ⟨rfl, nr3, sc3, rfl⟩
      walk_at "go"
      refine ⟨p, l, cells, n + 1, rfl, pen2, by omega, fun xo H3 oxo pen3 k3 => ?_⟩
      walk_at "go"
      refine new (show 2 ≤ sizeLine by decide) fun a4 H4 n4 h4 s4 => ?_
      walk_at "go"
      refine ⟨p, l, cells, n + 2, 2, rfl, pen3.same s4, by omega, by decide, by decide, fun d5 H5 d50 d52 pen5 k5 => ?_⟩
      have ap : a4 ≠ p := (pen3.ne n4).1
      obtain ⟨y, ey, oy⟩ : ∃ y, atI [nr3, xo] d5 = some y ∧ Odd H5 y := by
        have : d5 = 0 ∨ d5 = 1 := by omega
        rcases this with rfl | rfl
        · exact ⟨_, rfl, .inl sc3⟩
        · exact ⟨_, rfl, (oxo.kt fun b o e _ => s4 b o e).kp (pen3.same s4) k5⟩
      refine w_ixL (SqL.of (k5 _ _ h4 ap)) ey ?_
      walk_at "go"
      have ht5 := k5 _ _ (s4 _ _ (k3 _ _ ht2 tp)) tp
      refine w_setG ht5 (ix_in a0 a1) rfl fun H6 h6 e6 => ?_
      walk_at "go"
      have key : ∀ b o, H2 b = some o → (∀ xs, o = .lst xs → xs.length ≤ 2) → H5 b = some o := fun b o e hs => k5 _ _ (s4 _ _ (k3 b o e fun z => by
        obtain ⟨_, _, _, _, _, y⟩ := pen2
        rw [z, y] at e
        cases e
        exact absurd (hs _ rfl) (by show ¬ 3 ≤ 2; decide))) fun z => by
        have e3 := s4 _ _ (k3 b o e fun z => by
          obtain ⟨_, _, _, _, _, y⟩ := pen2
          rw [z, y] at e
          cases e
          exact absurd (hs _ rfl) (by show ¬ 3 ≤ 2; decide))
        obtain ⟨_, _, _, _, _, y⟩ := pen3.same s4
        rw [z, y] at e3
        cases e3
        exact absurd (hs _ rfl) (by show ¬ 3 ≤ 2; decide)
      have l56 : ∀ b o, H5 b = some o → (∀ xs, o = .lst xs → xs.length ≤ 2) → H6 b = some o := fun b o e hs => (e6 b fun z => by
        rw [z, ht5] at e
        cases e
        exact absurd (hs _ rfl) (by show ¬ 11 ≤ 2; decide)).trans e
      refine q _ H6 (by rw [List.length_set]; rfl) (fun x hx => ?_) h6 ?_ fun b o e nb nt => (e6 b nt).trans (k5 _ _ (s4 _ _ (k3 _ _ (e12 _ _ e nb) nb)) nb)
      · rcases mem_set hx with rfl | hx
        · exact oy.kt l56
        · exact ((od2 x hx).kt key).kt l56
      · obtain ⟨g1, g2, a, r, g3, g4⟩ := pen5
        exact ⟨g1, (e6 l tl.symm).trans g2, a, r, g3, (e6 p tp.symm).trans g4⟩
end
end Law

set_option Elab.async false
set_option linter.all false
set_option maxRecDepth 100000
set_option maxHeartbeats 4000000
namespace Law
open PySem PySem.Spec PySem.Calls PyProof.Rows L2 KG LamX
local macro_rules | `(tactic| walk_at "1") => `(tactic| first
  | (with_reducible refine w_var rfl ?_) | (with_reducible refine w_c ?_) | (with_reducible refine w_seq ?_) | (with_reducible refine w_asg ?_) | (with_reducible refine w_gname ?_) | (with_reducible refine w_op ?_) | (with_reducible refine w_un ?_)
  | (with_reducible refine w_add ?_) | (with_reducible refine w_sub ?_) | ((with_reducible refine' w_mod ?mo ?_); (case mo => first | assumption | decide | omega)) | (with_reducible refine w_and ?_) | (with_reducible refine w_or ?_) | (with_reducible refine w_xor ?_)
  | (with_reducible refine w_gt ?_) | (with_reducible refine w_lt ?_) | (with_reducible refine w_ge ?_) | (with_reducible refine w_le ?_) | ((with_reducible refine' w_eq ?sc ?_); (case sc => rfl)) | ((with_reducible refine' w_ne ?sc ?_); (case sc => rfl))
  | (with_reducible refine w_ret ?_) | (with_reducible refine w_next ?_) | (with_reducible refine w_ifs ?_) | (with_reducible refine w_ifx ?_) | (with_reducible refine w_test ?_) | (with_reducible refine w_tB ?_) | (with_reducible refine w_bl ?_)
  | ((with_reducible refine' w_ixL ?ixh ?ixa ?_); (case ixh => first | exact SqL.of (by assumption)); (case ixa => first | rfl | skip)) | ((with_reducible refine' w_ixT ?ixh ?ixa ?_); (case ixh => first | exact SqT.of (by assumption)); (case ixa => first | rfl | skip))
  | ((with_reducible refine' w_fld ?_)) | ((with_reducible refine' fld ?fh ?fc ?fn ?fl ?_); (case fh => assumption); (case fc => assumption); (case fn => assumption); (case fl => rfl)) | (with_reducible refine w_sfld ?_)
  | (with_reducible refine Or.inl ⟨_, rfl, ?_⟩) | (with_reducible refine w_gsub ?_) | (with_reducible refine w_andV ?_) | (with_reducible refine w_orV ?_)
  | (with_reducible refine w_nil ?_) | (with_reducible refine w_cons ?_) | (with_reducible refine w_tup ?_) | (with_reducible refine w_lst ?_) | (with_reducible refine w_and2 ?_) | (with_reducible refine w_or2 ?_) | (with_reducible refine w_not ?_) | (with_reducible refine w_cb ?_) | (with_reducible refine w_call ?_) | (with_reducible refine w_par ?_) | (with_reducible refine w_pnil ?_) | (with_reducible refine w_pcons ?_) | (with_reducible refine w_dput ?_) | (with_reducible refine w_dget ?_) | (with_reducible refine w_for ?_) | (with_reducible refine w_itup ?_) | (with_reducible refine w_ilist ?_) | (with_reducible refine w_irng ?_) | (with_reducible refine w_meth ?_) | (with_reducible refine w_make ?_) | (with_reducible refine w_makeK ?_) | (with_reducible refine w_methK ?_) | ((with_reducible refine' mth ?mh ?ml ?_); (case mh => assumption); (case ml => rfl)) | (with_reducible refine w_drop ?_))
local macro_rules | `(tactic| walk_at "go") => `(tactic| ((repeat (walk_at "1")); try dsimp only))
local macro_rules | `(tactic| walk_at "1") => `(tactic| first
  | (with_reducible refine w_notV ?_) | (with_reducible refine w_callK ?_) | (with_reducible refine w_lc ?_) | (with_reducible refine w_chain ?_) | (with_reducible refine w_neg ?_) | ((with_reducible refine' w_shr ?mo ?_); (case mo => first | assumption | omega)))
theorem op_or {X : Cx} {op : Value → Value → Sem Value} {r1 r2 : R2} (h1 : OpR X op r1) (h2 : OpR X op r2) : OpR X op (fun x y H Q => r1 x y H Q ∨ r2 x y H Q) := fun pins s σ H x y v u Q I rx ry h => h.elim (h1 pins s σ H x y v u Q I rx ry) (h2 pins s σ H x y v u Q I rx ry)
theorem walk_zipT {K : PySem.W.Frag} {a b : Addr} {xs ys : List V} {n : Nat} (hn : n = min xs.length ys.length) : Walk (RZ.ItzT K a b) n (fun H => SqT K H a xs ∧ SqT K H b ys) (YPair (fun i => xs[i]?) (fun i => ys[i]?)) := by
  subst hn
  refine ⟨fun i _ hi q => ?_, fun _ q => ⟨xs, ys, q.1, q.2, by omega⟩, fun i H v H' _ q y => ?_⟩
  · have h1 : i < xs.length := by omega
    have h2 : i < ys.length := by omega
    exact ⟨xs, ys, xs[i], ys[i], q.1, q.2, by simp [h1], by simp [h2]⟩
  · obtain ⟨T, x, z, h1, h2, h3, h4, h5⟩ := y
    exact ⟨T, x, z, h1, h2, h3, h4 xs q.1, h5 ys q.2⟩
theorem w_izip {K : PySem.W.Frag} {ta : TA} {σ : L2.St} {H : Hp} {R : It → Hp → Prop} (q : ta σ H fun vs H1 => ∃ a b xs ys, vs = [.ref a, .ref b] ∧ ((SqL K H1 a xs ∧ SqL K H1 b ys ∧ R (Itz K a b) H1) ∨ (SqT K H1 a xs ∧ SqT K H1 b ys ∧ R (RZ.ItzT K a b) H1))) : RZ.iZipA K ta σ H R := q
def Scal (x : V) : Prop := x = .non ∨ (∃ b, x = .bl b) ∨ (∃ i, x = .int i) ∨ ∃ z, x = .str z ∧ PyData.strOk z = true
/-- two values that hold the same, at most so deep -/
def SameV (H : Hp) : Nat → V → V → Prop
  | 0, _, _ => False
  | d + 1, x, y => (y = x ∧ Scal x) ∨ (∃ a, x = .ref a ∧ y = .ref a ∧ H a = some (.dK [(.inr "A", .int 1)])) ∨
      ∃ (a b : Addr) (xs ys : List V), x = .ref a ∧ y = .ref b ∧ xs.length = ys.length ∧ ys.length ≤ 60 ∧ ((H a = some (.lst xs) ∧ H b = some (.lst ys)) ∨ (H a = some (.tup xs) ∧ H b = some (.tup ys))) ∧ ∀ (i : Nat) (u v : V), xs[i]? = some u → ys[i]? = some v → SameV H d u v
theorem SameV.st {H H' : Hp} (s : Same H H') : ∀ {d : Nat} {x y : V}, SameV H d x y → SameV H' d x y
  | 0, _, _, h => h
  | d + 1, x, y, h => by
    rcases h with h | ⟨a, e1, e2, h⟩ | ⟨a, b, xs, ys, e1, e2, hl, h60, h, k⟩
    · exact .inl h
    · exact .inr (.inl ⟨a, e1, e2, s _ _ h⟩)
    · exact .inr (.inr ⟨a, b, xs, ys, e1, e2, hl, h60, h.imp (fun z => ⟨s _ _ z.1, s _ _ z.2⟩) (fun z => ⟨s _ _ z.1, s _ _ z.2⟩), fun i u v p q => SameV.st s (k i u v p q)⟩)
def spSame (d : Nat) : Sp := fun vs H Q _ => ∃ x y : V, vs = [x, y] ∧ SameV H d x y ∧ ∀ H', Same H H' → Q (.bl true) H'
theorem sh_sc : (∀ b, SeqAt.shaped (.bool b) = true) ∧ (∀ i, SeqAt.shaped (.int i) = true) ∧ ∀ z, PyData.strOk z = true → SeqAt.shaped (.str z) = true := by
  refine ⟨fun b => ?_, fun i => ?_, fun z hz => ?_⟩
  · unfold SeqAt.shaped
    simp [PyData.canLay0, PyData.depth]
  · unfold SeqAt.shaped
    simp [PyData.canLay0, PyData.depth]
  · unfold SeqAt.shaped
    simp [PyData.canLay0, PyData.depth, hz]
theorem iteNo {a b : Prop} {c : Bool} (h : c = false) (q : b) : if c = true then a else b := by
  rw [h]
  exact iteF q
theorem all_true : ∀ n : Nat, (List.replicate n true).all id = true
  | 0 => rfl
  | n + 1 => by
    rw [List.replicate_succ, List.all_cons, all_true n]
    rfl
/-- the word of a value's type -/
def tyN : V → String | .non => "NoneType" | .bl _ => "bool" | .int _ => "int" | _ => "str"
theorem scal_ty {K : PySem.W.Frag} {H : Hp} {x : V} (h : Scal x) : TyX K H x (.type (tyN x)) := by
  rcases h with rfl | ⟨b, rfl⟩ | ⟨i, rfl⟩ | ⟨z, rfl, _⟩
  · exact .base .non
  · exact .base (.bl b)
  · exact .base (.int i)
  · exact .base (.str z)
theorem kit_any2 {K : PySem.W.Frag} {t a b : String} {p q : Bool} (h1 : kitB t a = some p) (h2 : kitB t b = some q) : PySem.W.kitAny K (.type t) [.type a, .type b] = some (p || q) := by
  unfold PySem.W.kitAny
  rw [kit_ty h1]
  cases p with
  | true => rfl
  | false =>
    show PySem.W.kitAny K (.type t) [.type b] = _
    unfold PySem.W.kitAny
    rw [kit_ty h2]
    cases q <;> rfl
section
variable {P : Program} {w : World} {K : PySem.W.Frag} {mg : Str → Option Value} {base : Heap}
theorem ok_same (D : DefAt K mg "_law_same" s__law_same ["_law_told", "_law_due_here"]) (B : B1 mg) (gD : mg "dict" = none) (gZ : mg "zip" = none) : ∀ d : Nat, Cal P w K mg base (d + 1) "_law_same" (spSame d)
  | 0 => by
    refine D.cal (k := 0) sc__law_same (fun vs H Q E h => ?_) (fun f cdv A outer s0 H vs Q E rm gd h => ?_)
    · obtain ⟨x, y, rfl, h, _⟩ := h
      exact h.elim
    · obtain ⟨x, y, rfl, h, _⟩ := h
      exact h.elim
  | d + 1 => by
    have c_law_same := ok_same D B gD gZ d
    refine D.cal (k := d + 1) sc__law_same (fun vs H Q E h => ?_) (fun f cdv A outer s0 H vs Q E rm gd h => ?_)
    · obtain ⟨x, y, rfl, h, _⟩ := h
      rfl
    · obtain ⟨x, y, rfl, sv, q⟩ := h
      refine ⟨_, (pss_cons (ps_if (pt_val (pe_callB call_isiT (by rfl) B.g_isinstance (by decide +kernel) (pa_cons (pv 1) (pa_cons (pe_tup (pa_cons (pe_bltn (v := .ty "tuple") rfl B.g_tuple (by decide +kernel) rfl) (pa_cons (pe_bltn (v := .ty "list") rfl B.g_list (by decide +kernel) rfl) pa_nil))) pa_nil))))
      (pss_mid (ps_if (PW.pt (pw_or (pt_cmpR (op_neD rm.units) (pe_callB call_isi (by rfl) B.g_isinstance (by decide +kernel) (pa_cons (pv 1) (pa_cons (pe_bltn (v := .ty "tuple") rfl B.g_tuple (by decide +kernel) rfl) pa_nil))) (pe_callB call_isi (by rfl) B.g_isinstance (by decide +kernel) (pa_cons (pv 0) (pa_cons (pe_bltn (v := .ty "tuple") rfl B.g_tuple (by decide +kernel) rfl) pa_nil))) (nomark _)) (pw_or1 (pt_cmpR (op_neD rm.units) (pe_callB call_isi (by rfl) B.g_isinstance (by decide +kernel) (pa_cons (pv 1) (pa_cons (pe_bltn (v := .ty "list") rfl B.g_list (by decide +kernel) rfl) pa_nil))) (pe_callB call_isi (by rfl) B.g_isinstance (by decide +kernel) (pa_cons (pv 0) (pa_cons (pe_bltn (v := .ty "list") rfl B.g_list (by decide +kernel) rfl) pa_nil))) (nomark _)))))
        (pss_one (ps_ret pe_bl))
        pss_nil)
      (pss_cons (ps_if (pt_cmpR op_ne (pe_callB call_len_seq (by rfl) B.g_len (by decide +kernel) (pa_cons (pv 0) pa_nil)) (pe_callB call_len_seq (by rfl) B.g_len (by decide +kernel) (pa_cons (pv 1) pa_nil)) (nomark _))
        (pss_one (ps_ret pe_bl))
        pss_nil)
      (pss_one (ps_ret (pe_callB (id := "all") (r := rAll K) (cr_all (by rfl)) (by rfl) B.g_all (by decide +kernel) (pa_cons (pe_lc (own := [("_law_one", 2), ("_law_other_here", 3)]) (g := (gTup K 2 (gCons (gName 2) (gCons (gName 3) gNil)))) (by rfl) sc__law_same.nd (RZ.pi_zipA (by rfl) gZ (pa_cons (pv 0) (pa_cons (pv 1) pa_nil))) (blkOk_by (own := [("_law_one", 2), ("_law_other_here", 3)]) (N := ["_law_told", "_law_due_here", "_law_one", "_law_other_here"]) (sc := defScope s__law_same) (by decide +kernel)) (fun _ _ _ _ _ => (pg_tup rfl (pgs_cons (pg_name (i := 2) sc__law_same.nd rfl (Or.inl rfl)) (pgs_cons (pg_name (i := 3) sc__law_same.nd rfl (Or.inl rfl)) pgs_nil)))) (fun _ _ _ _ _ => pts_nil) (fun _ _ _ _ _ => (pc c_law_same rm (Nat.le_refl _) gd rfl (pa_cons (pv 2) (pa_cons (pv 3) pa_nil))))) pa_nil))))))
      pss_nil)
    (pss_cons (ps_if (pt_cmpR op_isN (pv 1) pe_non (nomark _))
      (pss_one (ps_ret (pe_cmpR op_isN (pv 0) pe_non (nomark _))))
      pss_nil)
    (pss_cons (ps_if (pt_val (pe_callB call_isi (by rfl) B.g_isinstance (by decide +kernel) (pa_cons (pv 1) (pa_cons (pe_bltn (v := .ty "bool") rfl B.g_bool (by decide +kernel) rfl) pa_nil))))
      (pss_one (ps_ret (pe_and (pe_callB call_isi (by rfl) B.g_isinstance (by decide +kernel) (pa_cons (pv 0) (pa_cons (pe_bltn (v := .ty "bool") rfl B.g_bool (by decide +kernel) rfl) pa_nil))) (pe_one (pe_cmpR (op_or (op_eqD rm.units) (op_eq_dict (Nat.lt_of_le_of_lt (Nat.le_add_right _ _) rm.units))) (pv 0) (pv 1) (nomark _))))))
      pss_nil)
    (pss_cons (ps_if (pt_val (pe_callB call_isi (by rfl) B.g_isinstance (by decide +kernel) (pa_cons (pv 1) (pa_cons (pe_bltn (v := .ty "int") rfl B.g_int (by decide +kernel) rfl) pa_nil))))
      (pss_one (ps_ret (pe_and (pe_callB call_isi (by rfl) B.g_isinstance (by decide +kernel) (pa_cons (pv 0) (pa_cons (pe_bltn (v := .ty "int") rfl B.g_int (by decide +kernel) rfl) pa_nil))) (pe_and (pe_not (pe_callB call_isi (by rfl) B.g_isinstance (by decide +kernel) (pa_cons (pv 0) (pa_cons (pe_bltn (v := .ty "bool") rfl B.g_bool (by decide +kernel) rfl) pa_nil)))) (pe_one (pe_cmpR (op_or (op_eqD rm.units) (op_eq_dict (Nat.lt_of_le_of_lt (Nat.le_add_right _ _) rm.units))) (pv 0) (pv 1) (nomark _)))))))
      pss_nil)
    (pss_cons (ps_if (pt_val (pe_callB call_isi (by rfl) B.g_isinstance (by decide +kernel) (pa_cons (pv 1) (pa_cons (pe_bltn (v := .ty "dict") rfl gD (by decide +kernel) rfl) pa_nil))))
      (pss_one (ps_ret (pe_and (pe_callB call_isi (by rfl) B.g_isinstance (by decide +kernel) (pa_cons (pv 0) (pa_cons (pe_bltn (v := .ty "dict") rfl gD (by decide +kernel) rfl) pa_nil))) (pe_one (pe_cmpR (op_or (op_eqD rm.units) (op_eq_dict (Nat.lt_of_le_of_lt (Nat.le_add_right _ _) rm.units))) (pv 0) (pv 1) (nomark _))))))
      pss_nil)
    (pss_one (ps_ret (pe_and (pe_callB call_isi (by rfl) B.g_isinstance (by decide +kernel) (pa_cons (pv 0) (pa_cons (pe_bltn (v := .ty "str") rfl B.g_str (by decide +kernel) rfl) pa_nil))) (pe_one (pe_cmpR (op_or (op_eqD rm.units) (op_eq_dict (Nat.lt_of_le_of_lt (Nat.le_add_right _ _) rm.units))) (pv 0) (pv 1) (nomark _))))))))))), ?_⟩
      walk_at "go"
      refine new (show 2 ≤ sizeLine by decide) fun tp H1 n1 h1 s1 => ?_
      walk_at "go"
      have tF : ∀ {a : String} {t : String} {p : Bool} {z : V} {H' : Hp} {Q' : VK}, kitB t a = some p → TyX K H' z (.type t) → Q' (.bl p) H' → rIsi K [z, .ty a] H' Q' := fun {a t p z H' Q'} k ty q => ⟨z, .ty a, .type t, .type a, p, rfl, .ty _, ty, kit_ty k, q⟩
      rcases sv with ⟨rfl, hs⟩ | ⟨a, rfl, rfl, ha⟩ | ⟨a, b, xs, ys, rfl, rfl, hl, h60, hab, kk⟩
      · have qt : ∀ H', Same H H' → Q (.bl true) H' := q
        rcases hs with rfl | ⟨b, rfl⟩ | ⟨i, rfl⟩ | ⟨z, rfl, hz⟩
        · refine ⟨_, tp, [.ty "tuple", .ty "list"], .type "NoneType", [.type "tuple", .type "list"], _, rfl, h1, .cons (.ty _) (.cons (.ty _) .nil), .base .non, kit_any2 (p := false) (q := false) (by decide +kernel) (by decide +kernel), ?_⟩
          walk_at "go"
          refine iteF ?_
          walk_at "go"
          refine ⟨rfl, true, rfl, iteT ?_⟩
          walk_at "go"
          exact ⟨rfl, q H1 s1⟩
        · refine ⟨_, tp, [.ty "tuple", .ty "list"], .type "bool", [.type "tuple", .type "list"], _, rfl, h1, .cons (.ty _) (.cons (.ty _) .nil), .base (.bl b), kit_any2 (p := false) (q := false) (by decide +kernel) (by decide +kernel), ?_⟩
          walk_at "go"
          refine iteF ?_
          walk_at "go"
          refine ⟨rfl, false, rfl, iteF ?_⟩
          walk_at "go"
          refine tF (p := true) (t := "bool") (by decide +kernel) (.base (.bl b)) ?_
          refine ⟨true, rfl, iteT ?_⟩
          walk_at "go"
          refine tF (p := true) (t := "bool") (by decide +kernel) (.base (.bl b)) ?_
          refine ⟨true, rfl, iteT ?_⟩
          walk_at "go"
          refine .inl ⟨_, _, .bl b, .bl b, sh_sc.1 b, sh_sc.1 b, ?_⟩
          have e : PyData.eqv (.bool b) (.bool b) = true := by cases b <;> rfl
          rw [e]
          exact q H1 s1
        · refine ⟨_, tp, [.ty "tuple", .ty "list"], .type "int", [.type "tuple", .type "list"], _, rfl, h1, .cons (.ty _) (.cons (.ty _) .nil), .base (.int i), kit_any2 (p := false) (q := false) (by decide +kernel) (by decide +kernel), ?_⟩
          walk_at "go"
          refine iteF ?_
          walk_at "go"
          refine ⟨rfl, false, rfl, iteF ?_⟩
          walk_at "go"
          refine tF (p := false) (t := "int") (by decide +kernel) (.base (.int i)) ?_
          refine ⟨false, rfl, iteF ?_⟩
          walk_at "go"
          refine tF (p := true) (t := "int") (by decide +kernel) (.base (.int i)) ?_
          refine ⟨true, rfl, iteT ?_⟩
          walk_at "go"
          refine tF (p := true) (t := "int") (by decide +kernel) (.base (.int i)) ?_
          refine ⟨true, rfl, iteT ?_⟩
          walk_at "go"
          refine tF (p := false) (t := "int") (by decide +kernel) (.base (.int i)) ?_
          refine ⟨false, rfl, true, rfl, iteT ?_⟩
          walk_at "go"
          refine .inl ⟨_, _, .int i, .int i, sh_sc.2.1 i, sh_sc.2.1 i, ?_⟩
          have e : PyData.eqv (.int i) (.int i) = true := by simp [PyData.eqv]
          rw [e]
          exact q H1 s1
        · refine ⟨_, tp, [.ty "tuple", .ty "list"], .type "str", [.type "tuple", .type "list"], _, rfl, h1, .cons (.ty _) (.cons (.ty _) .nil), .base (.str z), kit_any2 (p := false) (q := false) (by decide +kernel) (by decide +kernel), ?_⟩
          walk_at "go"
          refine iteF ?_
          walk_at "go"
          refine ⟨rfl, false, rfl, iteF ?_⟩
          walk_at "go"
          refine tF (p := false) (t := "str") (by decide +kernel) (.base (.str z)) ?_
          refine ⟨false, rfl, iteF ?_⟩
          walk_at "go"
          refine tF (p := false) (t := "str") (by decide +kernel) (.base (.str z)) ?_
          refine ⟨false, rfl, iteF ?_⟩
          walk_at "go"
          refine tF (p := false) (t := "str") (by decide +kernel) (.base (.str z)) ?_
          refine ⟨false, rfl, iteF ?_⟩
          walk_at "go"
          refine tF (p := true) (t := "str") (by decide +kernel) (.base (.str z)) ?_
          refine ⟨true, rfl, iteT ?_⟩
          walk_at "go"
          refine .inl ⟨_, _, .str z, .str z, sh_sc.2.2 z hz, sh_sc.2.2 z hz, ?_⟩
          rw [(eqv_str (z := z) (.str z)).mpr rfl]
          exact q H1 s1
      · have ha1 := s1 _ _ ha
        have tD : TyX K H1 (.ref a) (.type "dict") := .base (.dK ha1)
        refine ⟨_, tp, [.ty "tuple", .ty "list"], .type "dict", [.type "tuple", .type "list"], _, rfl, h1, .cons (.ty _) (.cons (.ty _) .nil), tD, kit_any2 (p := false) (q := false) (by decide +kernel) (by decide +kernel), ?_⟩
        walk_at "go"
        refine iteF ?_
        walk_at "go"
        refine ⟨rfl, false, rfl, iteF ?_⟩
        walk_at "go"
        refine tF (p := false) (t := "dict") (by decide +kernel) tD ?_
        refine ⟨false, rfl, iteF ?_⟩
        walk_at "go"
        refine tF (p := false) (t := "dict") (by decide +kernel) tD ?_
        refine ⟨false, rfl, iteF ?_⟩
        walk_at "go"
        refine tF (p := true) (t := "dict") (by decide +kernel) tD ?_
        refine ⟨true, rfl, iteT ?_⟩
        walk_at "go"
        refine tF (p := true) (t := "dict") (by decide +kernel) tD ?_
        refine ⟨true, rfl, iteT ?_⟩
        walk_at "go"
        exact .inr ⟨a, a, _, rfl, rfl, ha1, ha1, by decide +kernel, by decide +kernel, q H1 s1⟩
      · have neB : ∀ {p : Bool} {H' : Hp} {Q' : VK}, Q' (.bl false) H' → rNeD K (.bl p) (.bl p) H' Q' := fun {p H' Q'} q => ⟨_, _, .bl p, .bl p, sh_sc.1 p, sh_sc.1 p, by
          have e : PyData.eqv (.bool p) (.bool p) = true := by cases p <;> rfl
          rw [e]
          exact q⟩
        rcases hab with ⟨ha, hb⟩ | ⟨ha, hb⟩
        · have ha1 := s1 _ _ ha
          have hb1 := s1 _ _ hb
          have tA : TyX K H1 (.ref a) (.type "list") := .base (.lst ha1)
          have tB : TyX K H1 (.ref b) (.type "list") := .base (.lst hb1)
          refine ⟨_, tp, [.ty "tuple", .ty "list"], .type "list", [.type "tuple", .type "list"], _, rfl, h1, .cons (.ty _) (.cons (.ty _) .nil), tB, kit_any2 (p := false) (q := true) (by decide +kernel) (by decide +kernel), ?_⟩
          walk_at "go"
          refine iteT ?_
          walk_at "go"
          refine w_mid (fun σ' H' => H1 = H' ∧ σ' = [some (.ref a), some (.ref b), none, none]) ?_ ?_
          · walk_at "go"
            refine tF (p := false) (t := "list") (by decide +kernel) tB ?_
            walk_at "go"
            refine tF (p := false) (t := "list") (by decide +kernel) tA ?_
            refine neB ⟨false, rfl, iteF ?_⟩
            walk_at "go"
            refine tF (p := true) (t := "list") (by decide +kernel) tB ?_
            walk_at "go"
            refine tF (p := true) (t := "list") (by decide +kernel) tA ?_
            refine neB ⟨false, rfl, iteF ?_⟩
            walk_at "go"
            exact ⟨rfl, rfl⟩
          · rintro σ' H' ⟨rfl, rfl⟩
            walk_at "go"
            refine ⟨a, xs, rfl, .inl (SqL.of ha1), ?_⟩
            walk_at "go"
            refine ⟨b, ys, rfl, .inl (SqL.of hb1), ?_⟩
            rw [hl]
            walk_at "go"
            refine iteNo (by simp) ?_
            walk_at "go"
            refine w_izip ?_
            walk_at "go"
            refine ⟨a, b, xs, ys, rfl, .inl ⟨SqL.of ha1, SqL.of hb1, ?_⟩⟩
            intro D nD
            have zD : Same H1 (upd H1 D (.lst [])) := fun b u e => by
              rw [upd_ne (ne_of_none e nD)]
              exact e
            refine lc_it (walk_zip (K := K) (a := a) (b := b) (xs := xs) (ys := ys) (n := ys.length) (by rw [hl]; exact (Nat.min_self _).symm)) (fun i H2 => H2 D = some (.lst ((List.replicate i true).map V.bl)) ∧ Same H1 H2) ⟨upd_same, zD⟩ (fun i H2 _ h2 => ⟨SqL.of (h2.2 _ _ ha1), SqL.of (h2.2 _ _ hb1)⟩) (fun i v H2 H3 hi ⟨hD, s2⟩ hy => ?_) (fun H2 ⟨hD, s2⟩ => ?_)
            · obtain ⟨T, x, y, rfl, nT, rfl, ex, ey⟩ := hy
              have s3 : Same H2 (upd H2 T (.tup [x, y])) := fun b o e => by
                rw [upd_ne (ne_of_none e nT)]
                exact e
              have hT : upd H2 T (.tup [x, y]) T = some (.tup [x, y]) := upd_same
              have hD3 := s3 _ _ hD
              generalize upd H2 T (.tup [x, y]) = H3 at s3 hT hD3 ⊢
              refine ⟨T, _, rfl, SqT.of hT, rfl, _, _, rfl, _, _, rfl, rfl, ?_⟩
              walk_at "go"
              refine ⟨rfl, ?_⟩
              try unfold tYes
              refine iteT ?_
              walk_at "go"
              refine ⟨x, y, rfl, (kk i x y ex ey).st fun b o e => s3 _ _ (s2 _ _ (s1 _ _ e)), fun H4 s4 => ?_⟩
              refine ⟨_, s4 _ _ hD3, by rw [List.length_map, List.length_replicate]; exact Nat.lt_of_lt_of_le (show i < 61 by omega) (by decide), ?_, fun b2 o e => ?_⟩
              · rw [upd_same, List.replicate_succ', List.map_append]
                rfl
              · rw [upd_ne (ne_of_none e nD)]
                exact s4 _ _ (s3 _ _ (s2 _ _ e))
            · walk_at "go"
              refine ⟨D, _, rfl, SqL.of hD, ?_⟩
              rw [all_true]
              exact q H2 fun b o e => s2 _ _ (s1 _ _ e)
        · have ha1 := s1 _ _ ha
          have hb1 := s1 _ _ hb
          have tA : TyX K H1 (.ref a) (.type "tuple") := .base (.tup ha1)
          have tB : TyX K H1 (.ref b) (.type "tuple") := .base (.tup hb1)
          refine ⟨_, tp, [.ty "tuple", .ty "list"], .type "tuple", [.type "tuple", .type "list"], _, rfl, h1, .cons (.ty _) (.cons (.ty _) .nil), tB, kit_any2 (p := true) (q := false) (by decide +kernel) (by decide +kernel), ?_⟩
          walk_at "go"
          refine iteT ?_
          walk_at "go"
          refine w_mid (fun σ' H' => H1 = H' ∧ σ' = [some (.ref a), some (.ref b), none, none]) ?_ ?_
          · walk_at "go"
            refine tF (p := true) (t := "tuple") (by decide +kernel) tB ?_
            walk_at "go"
            refine tF (p := true) (t := "tuple") (by decide +kernel) tA ?_
            refine neB ⟨false, rfl, iteF ?_⟩
            walk_at "go"
            refine tF (p := false) (t := "tuple") (by decide +kernel) tB ?_
            walk_at "go"
            refine tF (p := false) (t := "tuple") (by decide +kernel) tA ?_
            refine neB ⟨false, rfl, iteF ?_⟩
            walk_at "go"
            exact ⟨rfl, rfl⟩
          · rintro σ' H' ⟨rfl, rfl⟩
            walk_at "go"
            refine ⟨a, xs, rfl, .inr (SqT.of ha1), ?_⟩
            walk_at "go"
            refine ⟨b, ys, rfl, .inr (SqT.of hb1), ?_⟩
            rw [hl]
            walk_at "go"
            refine iteNo (by simp) ?_
            walk_at "go"
            refine w_izip ?_
            walk_at "go"
            refine ⟨a, b, xs, ys, rfl, .inr ⟨SqT.of ha1, SqT.of hb1, ?_⟩⟩
            intro D nD
            have zD : Same H1 (upd H1 D (.lst [])) := fun b u e => by
              rw [upd_ne (ne_of_none e nD)]
              exact e
            refine lc_it (walk_zipT (K := K) (a := a) (b := b) (xs := xs) (ys := ys) (n := ys.length) (by rw [hl]; exact (Nat.min_self _).symm)) (fun i H2 => H2 D = some (.lst ((List.replicate i true).map V.bl)) ∧ Same H1 H2) ⟨upd_same, zD⟩ (fun i H2 _ h2 => ⟨SqT.of (h2.2 _ _ ha1), SqT.of (h2.2 _ _ hb1)⟩) (fun i v H2 H3 hi ⟨hD, s2⟩ hy => ?_) (fun H2 ⟨hD, s2⟩ => ?_)
            · obtain ⟨T, x, y, rfl, nT, rfl, ex, ey⟩ := hy
              have s3 : Same H2 (upd H2 T (.tup [x, y])) := fun b o e => by
                rw [upd_ne (ne_of_none e nT)]
                exact e
              have hT : upd H2 T (.tup [x, y]) T = some (.tup [x, y]) := upd_same
              have hD3 := s3 _ _ hD
              generalize upd H2 T (.tup [x, y]) = H3 at s3 hT hD3 ⊢
              refine ⟨T, _, rfl, SqT.of hT, rfl, _, _, rfl, _, _, rfl, rfl, ?_⟩
              walk_at "go"
              refine ⟨rfl, ?_⟩
              try unfold tYes
              refine iteT ?_
              walk_at "go"
              refine ⟨x, y, rfl, (kk i x y ex ey).st fun b o e => s3 _ _ (s2 _ _ (s1 _ _ e)), fun H4 s4 => ?_⟩
              refine ⟨_, s4 _ _ hD3, by rw [List.length_map, List.length_replicate]; exact Nat.lt_of_lt_of_le (show i < 61 by omega) (by decide), ?_, fun b2 o e => ?_⟩
              · rw [upd_same, List.replicate_succ', List.map_append]
                rfl
              · rw [upd_ne (ne_of_none e nD)]
                exact s4 _ _ (s3 _ _ (s2 _ _ e))
            · walk_at "go"
              refine ⟨D, _, rfl, SqL.of hD, ?_⟩
              rw [all_true]
              exact q H2 fun b o e => s2 _ _ (s1 _ _ e)
end
end Law

set_option Elab.async false
set_option linter.all false
set_option maxRecDepth 100000
set_option maxHeartbeats 4000000
namespace Law
open PySem PySem.Spec PySem.Calls PyProof.Rows L2 KG LamX
local macro_rules | `(tactic| walk_at "1") => `(tactic| first
  | (with_reducible refine w_var rfl ?_) | (with_reducible refine w_c ?_) | (with_reducible refine w_seq ?_) | (with_reducible refine w_asg ?_) | (with_reducible refine w_gname ?_) | (with_reducible refine w_op ?_) | (with_reducible refine w_un ?_)
  | (with_reducible refine w_add ?_) | (with_reducible refine w_sub ?_) | ((with_reducible refine' w_mod ?mo ?_); (case mo => first | assumption | decide | omega)) | (with_reducible refine w_and ?_) | (with_reducible refine w_or ?_) | (with_reducible refine w_xor ?_)
  | (with_reducible refine w_gt ?_) | (with_reducible refine w_lt ?_) | (with_reducible refine w_ge ?_) | (with_reducible refine w_le ?_) | ((with_reducible refine' w_eq ?sc ?_); (case sc => rfl)) | ((with_reducible refine' w_ne ?sc ?_); (case sc => rfl))
  | (with_reducible refine w_ret ?_) | (with_reducible refine w_next ?_) | (with_reducible refine w_ifs ?_) | (with_reducible refine w_ifx ?_) | (with_reducible refine w_test ?_) | (with_reducible refine w_tB ?_) | (with_reducible refine w_bl ?_)
  | ((with_reducible refine' w_ixL ?ixh ?ixa ?_); (case ixh => first | exact SqL.of (by assumption)); (case ixa => first | rfl | skip)) | ((with_reducible refine' w_ixT ?ixh ?ixa ?_); (case ixh => first | exact SqT.of (by assumption)); (case ixa => first | rfl | skip))
  | ((with_reducible refine' w_fld ?_)) | ((with_reducible refine' fld ?fh ?fc ?fn ?fl ?_); (case fh => assumption); (case fc => assumption); (case fn => assumption); (case fl => rfl)) | (with_reducible refine w_sfld ?_)
  | (with_reducible refine Or.inl ⟨_, rfl, ?_⟩) | (with_reducible refine w_gsub ?_) | (with_reducible refine w_andV ?_) | (with_reducible refine w_orV ?_)
  | (with_reducible refine w_nil ?_) | (with_reducible refine w_cons ?_) | (with_reducible refine w_tup ?_) | (with_reducible refine w_lst ?_) | (with_reducible refine w_and2 ?_) | (with_reducible refine w_or2 ?_) | (with_reducible refine w_not ?_) | (with_reducible refine w_cb ?_) | (with_reducible refine w_call ?_) | (with_reducible refine w_par ?_) | (with_reducible refine w_pnil ?_) | (with_reducible refine w_pcons ?_) | (with_reducible refine w_dput ?_) | (with_reducible refine w_dget ?_) | (with_reducible refine w_for ?_) | (with_reducible refine w_itup ?_) | (with_reducible refine w_ilist ?_) | (with_reducible refine w_irng ?_) | (with_reducible refine w_meth ?_) | (with_reducible refine w_make ?_) | (with_reducible refine w_makeK ?_) | (with_reducible refine w_methK ?_) | ((with_reducible refine' mth ?mh ?ml ?_); (case mh => assumption); (case ml => rfl)) | (with_reducible refine w_drop ?_))
local macro_rules | `(tactic| walk_at "go") => `(tactic| ((repeat (walk_at "1")); try dsimp only))
local macro_rules | `(tactic| walk_at "1") => `(tactic| first
  | (with_reducible refine w_notV ?_) | (with_reducible refine w_callK ?_) | (with_reducible refine w_lc ?_) | (with_reducible refine w_chain ?_) | (with_reducible refine w_neg ?_) | ((with_reducible refine' w_shr ?mo ?_); (case mo => first | assumption | omega)))
/-- the arguments of a right field -/
structure Rt (z : Str) (l s : Int) (r w d : Str) (v : Int) (lk ky cm hd : V) : Prop where
  nm : isNm (.str z) = true
  l0 : 0 ≤ l
  l31 : l ≤ 31
  s1 : 1 ≤ s
  s16 : s ≤ 16
  ls : l + s ≤ 32
  rd : r ∈ RD
  wr : w ∈ WR
  dv : d ∈ DV
  v0 : 0 ≤ v
  vf : v ≤ fw s
  vr : d = "raise" → v = 0
  blk : bdP lk = false
  bky : bdP ky = false
  bcm : bdP cm = false
  bhd : bdP hd = false
  held : hd ≠ .non → lk = .non ∧ ky = .non ∧ cm = .non ∧ r = "keep" ∧ w = "none" ∧ (d = "still" ∨ d = "drift")
  com : cm ≠ .non → r = "keep" ∧ w = "store" ∧ d = "still"
theorem badW_of {l : List Str} {z : Str} (h : z ∈ l) : badW l (.str z) = false := by
  show (!(l.any fun w => decide (w = z))) = false
  rw [Bool.not_eq_false', List.any_eq_true]
  exact ⟨z, h, decide_eq_true rfl⟩
theorem nm_str {x : V} (h : isNm x = true) : ∃ z, x = .str z := by
  cases x with
  | str z => exact ⟨z, rfl⟩
  | _ => exact absurd h (by simp [isNm, hasO])
theorem Rt.due {z : Str} {l s : Int} {r w d : Str} {v : Int} {lk ky cm hd : V} (R : Rt z l s r w d v lk ky cm hd) : dueF (.str z) (.int l) (.int s) (.str r) (.str w) (.str d) (.int v) lk ky cm hd = none := by
  rw [due_end R.nm (show isPl (.int l) (.int s) = true from decide_eq_true ⟨R.l0, R.l31, R.s1, R.s16, R.ls⟩) (badW_of R.rd) (badW_of R.wr) (badW_of R.dv) ?_ R.blk R.bky R.bcm R.bhd]
  · rw [if_neg, if_neg]
    · by_cases e : cm = .non
      · rw [decide_eq_true e]
        simp
      · obtain ⟨e1, e2, e3⟩ := R.com e
        subst e1 e2 e3
        rw [decide_eq_false e]
        unfold plainV
        simp
    · by_cases e : hd = .non
      · rw [decide_eq_true e]
        simp
      · obtain ⟨e1, e2, e3, e4, e5, e6⟩ := R.held e
        subst e1 e2 e3 e4 e5
        rw [decide_eq_false e]
        show ¬ (!false && !mbh .non .non .non "keep" "none" d) = true
        unfold mbh
        rcases e6 with rfl | rfl <;> simp
  · show (isW s (.int v) && (decide (d ≠ "raise") || decide (V.int v = .int 0))) = true
    have e1 : isW s (.int v) = true := by
      show (decide (0 ≤ v) && decide (v ≤ fw s)) = true
      rw [decide_eq_true R.v0, decide_eq_true R.vf]
      rfl
    rw [e1, Bool.true_and]
    by_cases e : d = "raise"
    · rw [R.vr e, decide_eq_true (rfl : V.int 0 = .int 0), Bool.or_true]
    · rw [decide_eq_true e, Bool.true_or]
theorem Rt.of {n lo sz r w d rs lk ky cm hd : V} (h : dueF n lo sz r w d rs lk ky cm hd = none) : ∃ (z : Str) (l s : Int) (r' w' d' : Str) (v : Int), n = .str z ∧ lo = .int l ∧ sz = .int s ∧ r = .str r' ∧ w = .str w' ∧ d = .str d' ∧ rs = .int v ∧ Rt z l s r' w' d' v lk ky cm hd := by
  have step : ∀ {c : Prop} [Decidable c] {a : Str ⊕ V} {b : Option (Str ⊕ V)}, (if c then some a else b) = none → ¬ c ∧ b = none := fun {c _ a b} h => by
    by_cases hc : c
    · rw [if_pos hc] at h
      cases h
    · rw [if_neg hc] at h
      exact ⟨hc, h⟩
  unfold dueF at h
  obtain ⟨a1, h⟩ := step h
  obtain ⟨a2, h⟩ := step h
  obtain ⟨a3, h⟩ := step h
  obtain ⟨a4, h⟩ := step h
  obtain ⟨a5, h⟩ := step h
  obtain ⟨a6, h⟩ := step h
  obtain ⟨a7, h⟩ := step h
  obtain ⟨a8, h⟩ := step h
  obtain ⟨a9, h⟩ := step h
  obtain ⟨a10, h⟩ := step h
  obtain ⟨a11, h⟩ := step h
  obtain ⟨a12, h⟩ := step h
  rw [Bool.not_eq_false] at a1 a2 a6
  rw [Bool.not_eq_true] at a3 a4 a5 a7 a8 a9 a10 a11 a12
  obtain ⟨z, rfl⟩ := nm_str a1
  obtain ⟨f1, f2, f3⟩ := pl_fr a2
  obtain ⟨l, rfl, l0, l31⟩ := fr_int f1
  obtain ⟨s, rfl, s1, s16⟩ := fr_int f2
  obtain ⟨r', mr, rfl⟩ := badW_str a3
  obtain ⟨w', mw, rfl⟩ := badW_str a4
  obtain ⟨d', md, rfl⟩ := badW_str a5
  cases rs with
  | int v =>
    have a6 : (isW s (.int v) && (decide (d' ≠ "raise") || decide (V.int v = .int 0))) = true := a6
    rw [Bool.and_eq_true, Bool.or_eq_true, decide_eq_true_iff, decide_eq_true_iff] at a6
    have b1 : (decide (0 ≤ v) && decide (v ≤ fw s)) = true := a6.1
    rw [Bool.and_eq_true, decide_eq_true_iff, decide_eq_true_iff] at b1
    refine ⟨z, l, s, r', w', d', v, rfl, rfl, rfl, rfl, rfl, rfl, rfl, ⟨a1, l0, l31, s1, s16, f3 l s rfl rfl, mr, mw, md, b1.1, b1.2, fun e => ?_, a7, a8, a9, a10, fun e => ?_, fun e => ?_⟩⟩
    · rcases a6.2 with h | h
      · exact absurd e h
      · injection h
    · rw [decide_eq_false e] at a11
      have b : mbh lk ky cm r' w' d' = true := by
        have : (!mbh lk ky cm r' w' d') = false := a11
        rwa [Bool.not_eq_false'] at this
      unfold mbh at b
      simp only [Bool.and_eq_true, Bool.or_eq_true, decide_eq_true_iff] at b
      exact b
    · rw [decide_eq_false e] at a12
      have b : plainV (.str r') (.str w') (.str d') = true := by
        have : (!plainV (.str r') (.str w') (.str d')) = false := a12
        rwa [Bool.not_eq_false'] at this
      unfold plainV at b
      simp only [Bool.and_eq_true, decide_eq_true_iff, V.str.injEq] at b
      exact ⟨b.1.1, b.1.2, b.2⟩
  | _ => exact absurd a6 (by simp [rsV, isRs, isW])
theorem fw_of (n : Int) : fw n = 1 * 2 ^ n.toNat - 1 := rfl
theorem fw_mono {a b : Int} (h : a ≤ b) : fw a ≤ fw b := by
  rw [fw_of, fw_of]
  have e : ∀ k : Nat, (2 : Int) ^ k = ((2 ^ k : Nat) : Int) := fun k => by rw [Int.natCast_pow]; rfl
  have h1 : 2 ^ a.toNat ≤ 2 ^ b.toNat := Nat.pow_le_pow_right (by decide) (by omega)
  rw [e, e]
  omega
theorem xor1 {s v : Int} (s1 : 1 ≤ s) (v0 : 0 ≤ v) (vf : v ≤ fw s) : 0 ≤ Builtin.bitXor v 1 ∧ Builtin.bitXor v 1 ≤ fw s ∧ Builtin.bitXor v 1 ≠ v := by
  rw [Bits.bitXor_pp v0 (by decide)]
  obtain ⟨k, rfl⟩ := Int.eq_ofNat_of_zero_le v0
  obtain ⟨m, rfl⟩ := Int.eq_ofNat_of_zero_le (show 0 ≤ s by omega)
  have e : fw (m : Int) = ((2 ^ m : Nat) : Int) - 1 := by
    rw [fw_of, Int.toNat_natCast, Int.natCast_pow, Int.one_mul]
    rfl
  rw [e] at vf ⊢
  have hk : k < 2 ^ m := by omega
  have h1 : (1 : Nat) < 2 ^ m := by
    have : 2 ^ 1 ≤ 2 ^ m := Nat.pow_le_pow_right (by decide) (by omega)
    omega
  have hx : k ^^^ 1 < 2 ^ m := Nat.xor_lt_two_pow hk h1
  refine ⟨Int.natCast_nonneg _, ?_, fun h => ?_⟩
  · show ((k ^^^ 1 : Nat) : Int) ≤ _
    omega
  · have h : ((k ^^^ 1 : Nat) : Int) = (k : Int) := h
    have h2 : k ^^^ 1 = k := by omega
    have h3 := congrArg (fun j => k ^^^ j) h2
    have h3 : k ^^^ (k ^^^ 1) = k ^^^ k := h3
    rw [← Nat.xor_assoc, Nat.xor_self, Nat.zero_xor] at h3
    exact absurd h3 (by decide)
/-- eleven arguments -/
structure F11 where
  z : Str
  l : Int
  s : Int
  r : Str
  w : Str
  d : Str
  v : Int
  lk : V
  ky : V
  cm : V
  hd : V
def F11.vs (F : F11) : List V := [.str F.z, .int F.l, .int F.s, .str F.r, .str F.w, .str F.d, .int F.v, F.lk, F.ky, F.cm, F.hd]
def F11.ok (F : F11) : Prop := Rt F.z F.l F.s F.r F.w F.d F.v F.lk F.ky F.cm F.hd
def F11.eq (F G : F11) : Bool := eqFld (.str F.z) (.int F.l) (.int F.s) F.r F.w F.d (.int F.v) F.lk F.ky F.cm F.hd (.str G.z) (.int G.l) (.int G.s) G.r G.w G.d (.int G.v) G.lk G.ky G.cm G.hd
theorem F11.ne {F G : F11} (h : G ≠ F) : F.eq G = false := by
  cases hb : F.eq G with
  | false => rfl
  | true =>
    exfalso
    unfold F11.eq eqFld at hb
    simp only [Bool.and_eq_true, decide_eq_true_iff, V.str.injEq, V.int.injEq] at hb
    obtain ⟨h1, h2, h3, ⟨⟨h4, h5⟩, h6⟩, h7, h8, h9, h10, h11⟩ := hb
    apply h
    cases F
    cases G
    simp only at h1 h2 h3 h4 h5 h6 h7 h8 h9 h10 h11
    subst h1 h2 h3 h4 h5 h6 h7 h8 h9 h10 h11
    rfl
theorem F11.refl (F : F11) : F.eq F = true := by
  unfold F11.eq eqFld
  simp
theorem bd_non : bdP .non = false := by simp [bdP]
theorem bd_nm {z : Str} (h : isNm (.str z) = true) : bdP (.str z) = false := by simp [bdP, h]
theorem qx_nm : isNm (.str "QX") = true ∧ isNm (.str "QY") = true := by decide +kernel
/-- the slice t[lo:hi], the heap behind it a letter -/
theorem w_slL {K : PySem.W.Frag} {t : Addr} {xs ys : List V} {lo hi : Option Int} {H : Hp} {Q : VK} (ht : H t = some (.lst xs)) (e : cutV xs lo hi = ys) (q : ∀ (pL : Addr) (H' : Hp), H pL = none → H' pL = some (.lst ys) → Same H H' → Q (.ref pL) H') : rSlL K (.ref t) lo hi H Q := by
  refine ⟨t, xs, rfl, SqL.of ht, fun pL nL => ?_⟩
  rw [e]
  exact q pL _ nL upd_same fun b o h => by
    rw [upd_ne (ne_of_none h nL)]
    exact h
end Law

set_option Elab.async false
set_option linter.all false
set_option maxRecDepth 100000
set_option maxHeartbeats 4000000
namespace Law
open PySem PySem.Spec PySem.Calls PyProof.Rows L2 KG LamX
local macro_rules | `(tactic| walk_at "1") => `(tactic| first
  | (with_reducible refine w_var rfl ?_) | (with_reducible refine w_c ?_) | (with_reducible refine w_seq ?_) | (with_reducible refine w_asg ?_) | (with_reducible refine w_gname ?_) | (with_reducible refine w_op ?_) | (with_reducible refine w_un ?_)
  | (with_reducible refine w_add ?_) | (with_reducible refine w_sub ?_) | ((with_reducible refine' w_mod ?mo ?_); (case mo => first | assumption | decide | omega)) | (with_reducible refine w_and ?_) | (with_reducible refine w_or ?_) | (with_reducible refine w_xor ?_)
  | (with_reducible refine w_gt ?_) | (with_reducible refine w_lt ?_) | (with_reducible refine w_ge ?_) | (with_reducible refine w_le ?_) | ((with_reducible refine' w_eq ?sc ?_); (case sc => rfl)) | ((with_reducible refine' w_ne ?sc ?_); (case sc => rfl))
  | (with_reducible refine w_ret ?_) | (with_reducible refine w_next ?_) | (with_reducible refine w_ifs ?_) | (with_reducible refine w_ifx ?_) | (with_reducible refine w_test ?_) | (with_reducible refine w_tB ?_) | (with_reducible refine w_bl ?_)
  | ((with_reducible refine' w_ixL ?ixh ?ixa ?_); (case ixh => first | exact SqL.of (by assumption)); (case ixa => first | rfl | skip)) | ((with_reducible refine' w_ixT ?ixh ?ixa ?_); (case ixh => first | exact SqT.of (by assumption)); (case ixa => first | rfl | skip))
  | ((with_reducible refine' w_fld ?_)) | ((with_reducible refine' fld ?fh ?fc ?fn ?fl ?_); (case fh => assumption); (case fc => assumption); (case fn => assumption); (case fl => rfl)) | (with_reducible refine w_sfld ?_)
  | (with_reducible refine Or.inl ⟨_, rfl, ?_⟩) | (with_reducible refine w_gsub ?_) | (with_reducible refine w_andV ?_) | (with_reducible refine w_orV ?_)
  | (with_reducible refine w_nil ?_) | (with_reducible refine w_cons ?_) | (with_reducible refine w_tup ?_) | (with_reducible refine w_lst ?_) | (with_reducible refine w_and2 ?_) | (with_reducible refine w_or2 ?_) | (with_reducible refine w_not ?_) | (with_reducible refine w_cb ?_) | (with_reducible refine w_call ?_) | (with_reducible refine w_par ?_) | (with_reducible refine w_pnil ?_) | (with_reducible refine w_pcons ?_) | (with_reducible refine w_dput ?_) | (with_reducible refine w_dget ?_) | (with_reducible refine w_for ?_) | (with_reducible refine w_itup ?_) | (with_reducible refine w_ilist ?_) | (with_reducible refine w_irng ?_) | (with_reducible refine w_meth ?_) | (with_reducible refine w_make ?_) | (with_reducible refine w_makeK ?_) | (with_reducible refine w_methK ?_) | ((with_reducible refine' mth ?mh ?ml ?_); (case mh => assumption); (case ml => rfl)) | (with_reducible refine w_drop ?_))
local macro_rules | `(tactic| walk_at "go") => `(tactic| ((repeat (walk_at "1")); try dsimp only))
local macro_rules | `(tactic| walk_at "1") => `(tactic| first
  | (with_reducible refine w_notV ?_) | (with_reducible refine w_callK ?_) | (with_reducible refine w_lc ?_) | (with_reducible refine w_chain ?_) | (with_reducible refine w_neg ?_) | ((with_reducible refine' w_shr ?mo ?_); (case mo => first | assumption | omega)))
theorem iteYes {a b : Prop} {c : Bool} (h : c = true) (q : a) : if c = true then a else b := by
  rw [h]
  exact iteT q
theorem plain_eqv {r wr d : Str} : PyData.eqv (.list [.str r, .str wr, .str d]) (.list [.str "keep", .str "store", .str "still"]) = plainV (.str r) (.str wr) (.str d) := by
  unfold plainV
  rw [dS, dS, dS]
  by_cases e1 : r = ("keep" : Str)
  · by_cases e2 : wr = ("store" : Str)
    · by_cases e3 : d = ("still" : Str)
      · rw [e1, e2, e3]
        decide +kernel
      · simp [PyData.eqv, PyData.eqvAll, e3]
    · simp [PyData.eqv, PyData.eqvAll, e2]
  · simp [PyData.eqv, PyData.eqvAll, e1]
def spOther (k : Nat) (bad : List V → Prop) : Sp := fun vs H Q _ => ∃ (p lp t : Addr) (cells : List Int) (n : Nat) (F : F11) (more : List V), vs = .ref p :: .ref t :: more ∧ bad more ∧ PenC n p lp cells H ∧ n + k + 3 ≤ 100000 ∧ H t = some (.lst F.vs) ∧ F.ok ∧
  ∀ (t2 : Addr) (G : F11) H', G.ok → G ≠ F → H' t2 = some (.lst G.vs) → PenC (n + k) p lp cells H' → Kp p H H' → Q (.ref t2) H'
section
variable {P : Program} {w : World} {K : PySem.W.Frag} {mg : Str → Option Value} {base : Heap}
theorem ok_other_kind (D : DefAt K mg "_law_other_kind" s__law_other_kind ["_law_pen_here", "_law_parts", "_law_choice"]) (B : B1 mg) (c_law_draw : Cal P w K mg base 1 "_law_draw" spDraw) : Cal P w K mg base 2 "_law_other_kind" (spOther 3 fun more => ∃ c : Int, more = [.int c] ∧ 5 ≤ c ∧ c ≤ 7) := by
  refine D.cal (k := 1) sc__law_other_kind (fun vs H Q E h => ?_) (fun f cdv A outer s0 H vs Q E rm gd h => ?_)
  · obtain ⟨p, lp, t, cells, n, F, _, rfl, ⟨c, rfl, c5, c7⟩, _⟩ := h
    rfl
  · obtain ⟨p, lp, t, cells, n, F, _, rfl, ⟨c, rfl, c5, c7⟩, pen, hn, ht, R, q⟩ := h
    obtain ⟨z, l, s, r, wr, d, v, lk, ky, cm, hd⟩ := F
    have R : Rt z l s r wr d v lk ky cm hd := R
    have ht : H t = some (.lst [.str z, .int l, .int s, .str r, .str wr, .str d, .int v, lk, ky, cm, hd]) := ht
    have tp : t ≠ p := pen.nel ht (by show 11 ≠ 3; decide)
    refine ⟨_, (pss_cons (ps_set (i := 3) sc__law_other_kind.nd rfl (Or.inl rfl) (pe_callTy call_list_of (by rfl) B.g_list (by decide +kernel) (pa_cons (pv 1) pa_nil)))
    (pss_cons (ps_set (i := 4) sc__law_other_kind.nd rfl (Or.inl rfl) (pe_op op_add pe_int (pc c_law_draw rm (by decide) gd rfl (pa_cons (pv 0) (pa_cons pe_int pa_nil)))))
    (pss_mid (ps_if (PW.pt (pw_and (pt_cmpR op_eq (pv 2) pe_int (nomark _)) (pw_and (pt_cmpR op_gt (pe_ix ix_list (pv 1) pe_int (fun _ _ => rfl)) pe_int (nomark _)) (pw_and1 (pt_cmpR op_lt (pe_ix ix_list (pv 1) pe_int (fun _ _ => rfl)) (pe_op op_shl pe_int (pe_op op_sub (pe_ix ix_list (pv 1) pe_int (fun _ _ => rfl)) pe_int)) (nomark _))))))
      (pss_one (ps_asg (pe_op op_sub (pe_ix ix_list (pv 1) pe_int (fun _ _ => rfl)) pe_int) (pg_sub (pv 3) pe_int set_list)))
      (pss_one (ps_if (PW.pt (pw_and (pt_cmpR op_eq (pv 2) pe_int (nomark _)) (pw_and (pt_cmpR op_lt (pe_ix ix_list (pv 1) pe_int (fun _ _ => rfl)) pe_int (nomark _)) (pw_and1 (pt_cmpR op_lt (pe_op op_add (pe_ix ix_list (pv 1) pe_int (fun _ _ => rfl)) (pe_ix ix_list (pv 1) pe_int (fun _ _ => rfl))) pe_int (nomark _))))))
        (pss_one (ps_asg (pe_op op_add (pe_ix ix_list (pv 1) pe_int (fun _ _ => rfl)) pe_int) (pg_sub (pv 3) pe_int set_list)))
        (pss_one (ps_if (PW.pt (pw_and (pt_cmpR op_eq (pv 2) pe_int (nomark _)) (pw_and1 (pt_cmpR (op_eqD rm.units) (pe_slice sl_list (pv 1) (po_some pe_int) po_none) (pe_lst (pa_cons pe_non (pa_cons pe_non pa_nil))) (nomark _)))))
          (pss_cons (ps_set (i := 5) sc__law_other_kind.nd rfl (Or.inl rfl) (pe_ix ix_list (pe_lst (pa_cons (pe_lst (pa_cons pe_str (pa_cons pe_str pa_nil))) (pa_cons (pe_lst (pa_cons pe_str (pa_cons pe_str pa_nil))) (pa_cons (pe_lst (pa_cons pe_str (pa_cons pe_str pa_nil))) pa_nil)))) (pe_op op_sub (pv 4) pe_int) (fun _ _ => rfl)))
          (pss_one (ps_asg (pe_ix ix_list (pv 5) (pe_callTy call_int1 (by rfl) B.g_int (by decide +kernel) (pa_cons (pe_cmpR op_eq (pe_ix ix_list (pv 1) (pv 4) (fun _ _ => rfl)) (pe_ix ix_list (pv 5) pe_int (fun _ _ => rfl)) (nomark _)) pa_nil)) (fun _ _ => rfl)) (pg_sub (pv 3) (pv 4) set_list))))
          (pss_one (ps_if (PW.pt (pw_and (pt_cmpR op_eq (pv 2) pe_int (nomark _)) (pw_and1 (pt_cmpR (op_eqD rm.units) (pe_slice sl_list (pv 1) (po_some pe_int) (po_some pe_int)) (pe_lst (pa_cons pe_str (pa_cons pe_str (pa_cons pe_str pa_nil)))) (nomark _)))))
            (pss_one (ps_asg (pe_ifExp (pt_cmpR op_notN (pe_ix ix_list (pv 1) pe_int (fun _ _ => rfl)) pe_non (nomark _)) pe_non pe_str) (pg_sub (pv 3) pe_int set_list)))
            (pss_one (ps_asg (pe_ifExp (pt_cmpR op_ne (pe_ix ix_list (pv 1) pe_int (fun _ _ => rfl)) pe_str (nomark _)) pe_str pe_str) (pg_sub (pv 3) pe_int set_list))))))))))
    (pss_one (ps_ret (pv 3)))))), ?_⟩
    walk_at "go"
    refine ⟨t, _, rfl, .inl (SqL.of ht), fun t2 n2 => ?_⟩
    have s2 : Same H (upd H t2 (.lst [.str z, .int l, .int s, .str r, .str wr, .str d, .int v, lk, ky, cm, hd])) := fun b o e => by
      rw [upd_ne (ne_of_none e n2)]
      exact e
    have h2' : upd H t2 (.lst [.str z, .int l, .int s, .str r, .str wr, .str d, .int v, lk, ky, cm, hd]) t2 = some (.lst [.str z, .int l, .int s, .str r, .str wr, .str d, .int v, lk, ky, cm, hd]) := upd_same
    generalize upd H t2 (.lst [.str z, .int l, .int s, .str r, .str wr, .str d, .int v, lk, ky, cm, hd]) = H1 at s2 h2' ⊢
    walk_at "go"
    refine ⟨p, lp, cells, n, 3, rfl, pen.same s2, by omega, by decide, by decide, fun at_ H2 a0 a3 pen2 k2 => ?_⟩
    have t2p : t2 ≠ p := (pen.ne n2).1
    have t2l : t2 ≠ lp := (pen.ne n2).2
    have h2 := k2 _ _ h2' t2p
    have k02 : Kp p H H2 := fun b o e nb => k2 b o (s2 _ _ e) nb
    have ht2 := k02 _ _ ht tp
    walk_at "go"
    refine w_mid (fun σ' H' => (∃ v5, σ' = [some (.ref p), some (.ref t), some (.int c), some (.ref t2), some (.int (3 + at_)), v5]) ∧ ∃ G : F11, G.ok ∧ G ≠ ⟨z, l, s, r, wr, d, v, lk, ky, cm, hd⟩ ∧ H' t2 = some (.lst G.vs) ∧ PenC (n + 3) p lp cells H' ∧ Kp p H H') ?_ ?_
    · have fin : ∀ (G : F11) (Hc H3 : Hp), Rt G.z G.l G.s G.r G.w G.d G.v G.lk G.ky G.cm G.hd → G ≠ ⟨z, l, s, r, wr, d, v, lk, ky, cm, hd⟩ → Same H2 Hc → H3 t2 = some (.lst G.vs) → (∀ b, b ≠ t2 → H3 b = Hc b) → ∃ G : F11, G.ok ∧ G ≠ ⟨z, l, s, r, wr, d, v, lk, ky, cm, hd⟩ ∧ H3 t2 = some (.lst G.vs) ∧ PenC (n + 3) p lp cells H3 ∧ Kp p H H3 := fun G Hc H3 ok ne sc h3 e3 => by
        refine ⟨G, ok, ne, h3, ?_, fun b o e nb => (e3 b (ne_of_none e n2)).trans (sc _ _ (k02 b o e nb))⟩
        obtain ⟨g1, g2, a, r, g3, g4⟩ := (pen2.same sc).mono (show n + 1 ≤ n + 3 by omega)
        exact ⟨g1, (e3 lp t2l.symm).trans g2, a, r, g3, (e3 p t2p.symm).trans g4⟩
      walk_at "go"
      have cc : c = 5 ∨ c = 6 ∨ c = 7 := by omega
      rcases cc with rfl | rfl | rfl
      · refine ite2 (fun _ => ?_) (fun h => absurd rfl h)
        walk_at "go"
        by_cases f1 : 1 < s
        · refine iteYes (decide_eq_true f1) ?_
          walk_at "go"
          refine w_shl ⟨by omega, by have := R.s16; omega, by decide⟩ ?_
          walk_at "go"
          by_cases f2 : v < 1 * 2 ^ (s - 1).toNat
          · refine iteYes (decide_eq_true f2) ?_
            walk_at "go"
            refine w_setG h2 rfl rfl fun H3 h3 e3 => ?_
            exact ⟨⟨_, rfl⟩, fin ⟨z, l, s - 1, r, wr, d, v, lk, ky, cm, hd⟩ _ H3 (show Rt (z) (l) (s - 1) (r) (wr) (d) (v) (lk) (ky) (cm) (hd) from { R with s1 := by omega, s16 := by have := R.s16; omega, ls := by have := R.ls; omega, vf := by rw [fw_of]; omega }) (fun x => by have := congrArg F11.s x; have : s - 1 = s := this; omega) (Same.refl _) h3 e3⟩
          · refine iteNo (decide_eq_false f2) ?_
            walk_at "go"
            refine ite2 (fun _ => ?_) (fun h => absurd rfl h)
            walk_at "go"
            by_cases g1 : s < 16
            · refine iteYes (decide_eq_true g1) ?_
              walk_at "go"
              by_cases g2 : l + s < 32
              · refine iteYes (decide_eq_true g2) ?_
                walk_at "go"
                refine w_setG h2 rfl rfl fun H3 h3 e3 => ?_
                exact ⟨⟨_, rfl⟩, fin ⟨z, l, s + 1, r, wr, d, v, lk, ky, cm, hd⟩ _ H3 (show Rt (z) (l) (s + 1) (r) (wr) (d) (v) (lk) (ky) (cm) (hd) from { R with s1 := by have := R.s1; omega, s16 := by omega, ls := by omega, vf := Int.le_trans R.vf (fw_mono (by omega)) }) (fun x => by have := congrArg F11.s x; have : s + 1 = s := this; omega) (Same.refl _) h3 e3⟩
              · refine iteNo (decide_eq_false g2) ?_
                walk_at "go"
                refine ite2 (fun h => absurd h (by decide)) (fun _ => iteF ?_)
                walk_at "go"
                refine ite2 (fun h => absurd h (by decide)) (fun _ => iteF ?_)
                walk_at "go"
                by_cases e : z = ("QX" : Str)
                · refine iteNo (by simp [e]) ?_
                  walk_at "go"
                  refine w_setG h2 rfl rfl fun H3 h3 e3 => ?_
                  exact ⟨⟨_, rfl⟩, fin ⟨"QY", l, s, r, wr, d, v, lk, ky, cm, hd⟩ _ H3 (show Rt ("QY") (l) (s) (r) (wr) (d) (v) (lk) (ky) (cm) (hd) from { R with nm := qx_nm.2 }) (fun x => by have this : ("QY" : Str) = z := congrArg F11.z x; rw [e] at this; exact absurd this (by decide +kernel)) (Same.refl _) h3 e3⟩
                · refine iteYes (by simp [e]) ?_
                  walk_at "go"
                  refine w_setG h2 rfl rfl fun H3 h3 e3 => ?_
                  exact ⟨⟨_, rfl⟩, fin ⟨"QX", l, s, r, wr, d, v, lk, ky, cm, hd⟩ _ H3 (show Rt ("QX") (l) (s) (r) (wr) (d) (v) (lk) (ky) (cm) (hd) from { R with nm := qx_nm.1 }) (fun x => e (congrArg F11.z x).symm) (Same.refl _) h3 e3⟩
            · refine iteNo (decide_eq_false g1) ?_
              refine iteF ?_
              walk_at "go"
              refine ite2 (fun h => absurd h (by decide)) (fun _ => iteF ?_)
              walk_at "go"
              refine ite2 (fun h => absurd h (by decide)) (fun _ => iteF ?_)
              walk_at "go"
              by_cases e : z = ("QX" : Str)
              · refine iteNo (by simp [e]) ?_
                walk_at "go"
                refine w_setG h2 rfl rfl fun H3 h3 e3 => ?_
                exact ⟨⟨_, rfl⟩, fin ⟨"QY", l, s, r, wr, d, v, lk, ky, cm, hd⟩ _ H3 (show Rt ("QY") (l) (s) (r) (wr) (d) (v) (lk) (ky) (cm) (hd) from { R with nm := qx_nm.2 }) (fun x => by have this : ("QY" : Str) = z := congrArg F11.z x; rw [e] at this; exact absurd this (by decide +kernel)) (Same.refl _) h3 e3⟩
              · refine iteYes (by simp [e]) ?_
                walk_at "go"
                refine w_setG h2 rfl rfl fun H3 h3 e3 => ?_
                exact ⟨⟨_, rfl⟩, fin ⟨"QX", l, s, r, wr, d, v, lk, ky, cm, hd⟩ _ H3 (show Rt ("QX") (l) (s) (r) (wr) (d) (v) (lk) (ky) (cm) (hd) from { R with nm := qx_nm.1 }) (fun x => e (congrArg F11.z x).symm) (Same.refl _) h3 e3⟩
        · refine iteNo (decide_eq_false f1) ?_
          refine iteF ?_
          walk_at "go"
          refine ite2 (fun _ => ?_) (fun h => absurd rfl h)
          walk_at "go"
          by_cases g1 : s < 16
          · refine iteYes (decide_eq_true g1) ?_
            walk_at "go"
            by_cases g2 : l + s < 32
            · refine iteYes (decide_eq_true g2) ?_
              walk_at "go"
              refine w_setG h2 rfl rfl fun H3 h3 e3 => ?_
              exact ⟨⟨_, rfl⟩, fin ⟨z, l, s + 1, r, wr, d, v, lk, ky, cm, hd⟩ _ H3 (show Rt (z) (l) (s + 1) (r) (wr) (d) (v) (lk) (ky) (cm) (hd) from { R with s1 := by have := R.s1; omega, s16 := by omega, ls := by omega, vf := Int.le_trans R.vf (fw_mono (by omega)) }) (fun x => by have := congrArg F11.s x; have : s + 1 = s := this; omega) (Same.refl _) h3 e3⟩
            · refine iteNo (decide_eq_false g2) ?_
              walk_at "go"
              refine ite2 (fun h => absurd h (by decide)) (fun _ => iteF ?_)
              walk_at "go"
              refine ite2 (fun h => absurd h (by decide)) (fun _ => iteF ?_)
              walk_at "go"
              by_cases e : z = ("QX" : Str)
              · refine iteNo (by simp [e]) ?_
                walk_at "go"
                refine w_setG h2 rfl rfl fun H3 h3 e3 => ?_
                exact ⟨⟨_, rfl⟩, fin ⟨"QY", l, s, r, wr, d, v, lk, ky, cm, hd⟩ _ H3 (show Rt ("QY") (l) (s) (r) (wr) (d) (v) (lk) (ky) (cm) (hd) from { R with nm := qx_nm.2 }) (fun x => by have this : ("QY" : Str) = z := congrArg F11.z x; rw [e] at this; exact absurd this (by decide +kernel)) (Same.refl _) h3 e3⟩
              · refine iteYes (by simp [e]) ?_
                walk_at "go"
                refine w_setG h2 rfl rfl fun H3 h3 e3 => ?_
                exact ⟨⟨_, rfl⟩, fin ⟨"QX", l, s, r, wr, d, v, lk, ky, cm, hd⟩ _ H3 (show Rt ("QX") (l) (s) (r) (wr) (d) (v) (lk) (ky) (cm) (hd) from { R with nm := qx_nm.1 }) (fun x => e (congrArg F11.z x).symm) (Same.refl _) h3 e3⟩
          · refine iteNo (decide_eq_false g1) ?_
            refine iteF ?_
            walk_at "go"
            refine ite2 (fun h => absurd h (by decide)) (fun _ => iteF ?_)
            walk_at "go"
            refine ite2 (fun h => absurd h (by decide)) (fun _ => iteF ?_)
            walk_at "go"
            by_cases e : z = ("QX" : Str)
            · refine iteNo (by simp [e]) ?_
              walk_at "go"
              refine w_setG h2 rfl rfl fun H3 h3 e3 => ?_
              exact ⟨⟨_, rfl⟩, fin ⟨"QY", l, s, r, wr, d, v, lk, ky, cm, hd⟩ _ H3 (show Rt ("QY") (l) (s) (r) (wr) (d) (v) (lk) (ky) (cm) (hd) from { R with nm := qx_nm.2 }) (fun x => by have this : ("QY" : Str) = z := congrArg F11.z x; rw [e] at this; exact absurd this (by decide +kernel)) (Same.refl _) h3 e3⟩
            · refine iteYes (by simp [e]) ?_
              walk_at "go"
              refine w_setG h2 rfl rfl fun H3 h3 e3 => ?_
              exact ⟨⟨_, rfl⟩, fin ⟨"QX", l, s, r, wr, d, v, lk, ky, cm, hd⟩ _ H3 (show Rt ("QX") (l) (s) (r) (wr) (d) (v) (lk) (ky) (cm) (hd) from { R with nm := qx_nm.1 }) (fun x => e (congrArg F11.z x).symm) (Same.refl _) h3 e3⟩
      · refine ite2 (fun h => absurd h (by decide)) (fun _ => iteF ?_)
        walk_at "go"
        refine ite2 (fun h => absurd h (by decide)) (fun _ => iteF ?_)
        walk_at "go"
        refine ite2 (fun _ => ?_) (fun h => absurd rfl h)
        walk_at "go"
        unfold tSl
        walk_at "go"
        unfold tPart
        walk_at "go"
        refine ⟨9, rfl, ?_⟩
        unfold tNoPart
        refine w_slL (ys := [cm, hd]) ht2 (by rfl) fun pL HL nL hL sL => ?_
        walk_at "go"
        refine new (show 2 ≤ sizeLine by decide) fun pN HN nN hN sN => ?_
        have oc := bd_on R.bcm
        have oh := bd_on R.bhd
        have sHN : Same H2 HN := sL.trans sN
        obtain ⟨dc, cc1, cc2, cc3⟩ := on_dp (K := K) (H := HN) oc
        obtain ⟨dh, ch1, ch2, ch3⟩ := on_dp (K := K) (H := HN) oh
        refine ⟨.list [onD cm, onD hd], .list [.none, .none], .lst (SqL.of (sN _ _ hL)) (.cons dc (.cons dh .nil)), .lst (SqL.of hN) (.cons .non (.cons .non .nil)), sh_list (by simp [cc1, cc2, ch1, ch2]), by decide +kernel, ?_⟩
        have ev : PyData.eqv (.list [onD cm, onD hd]) (.list [.none, .none]) = (decide (cm = .non) && decide (hd = .non)) := by
          simp only [PyData.eqv, PyData.eqvAll, cc3, ch3, Bool.and_true]
        rw [ev]
        by_cases e1 : cm = .non
        · by_cases e2 : hd = .non
          · rw [decide_eq_true e1, decide_eq_true e2]
            refine ⟨true, rfl, iteT ?_⟩
            subst e1 e2
            have htN := sHN _ _ ht2
            have h2N := sHN _ _ h2
            walk_at "go"
            refine new (show 2 ≤ sizeLine by decide) fun a7 H7 n7 h7 s7 => ?_
            walk_at "go"
            refine new (show 2 ≤ sizeLine by decide) fun a8 H8 n8 h8 s8 => ?_
            walk_at "go"
            refine new (show 2 ≤ sizeLine by decide) fun a9 H9 n9 h9 s9 => ?_
            walk_at "go"
            refine new (show 3 ≤ sizeLine by decide) fun aT HT nT hT sT => ?_
            have g7 := sT _ _ (s9 _ _ (s8 _ _ h7))
            have g8 := sT _ _ (s9 _ _ h8)
            have g9 := sT _ _ h9
            have sNT : Same HN HT := s7.trans (s8.trans (s9.trans sT))
            have htT := sNT _ _ htN
            have h2T := sNT _ _ h2N
            walk_at "go"
            have a012 : at_ = 0 ∨ at_ = 1 ∨ at_ = 2 := by omega
            rcases a012 with rfl | rfl | rfl
            · refine w_ixL (SqL.of hT) (v := .ref a7) rfl ?_
              walk_at "go"
              by_cases e : r = ("keep" : Str)
              · refine .inr ⟨true, by simp [e], ?_⟩
                walk_at "go"
                refine w_setG h2T rfl rfl fun H3 h3 e3 => ?_
                exact ⟨⟨_, rfl⟩, fin ⟨z, l, s, "take", wr, d, v, lk, ky, .non, .non⟩ _ H3 (show Rt (z) (l) (s) ("take") (wr) (d) (v) (lk) (ky) (.non) (.non) from { R with rd := by decide +kernel, bcm := bd_non, bhd := bd_non, held := fun h => absurd rfl h, com := fun h => absurd rfl h }) (fun x => by have this : ("take" : Str) = r := congrArg F11.r x; rw [e] at this; exact absurd this (by decide +kernel)) (sHN.trans sNT) h3 e3⟩
              · refine .inr ⟨false, by simp [e], ?_⟩
                walk_at "go"
                refine w_setG h2T rfl rfl fun H3 h3 e3 => ?_
                exact ⟨⟨_, rfl⟩, fin ⟨z, l, s, "keep", wr, d, v, lk, ky, .non, .non⟩ _ H3 (show Rt (z) (l) (s) ("keep") (wr) (d) (v) (lk) (ky) (.non) (.non) from { R with rd := by decide +kernel, bcm := bd_non, bhd := bd_non, held := fun h => absurd rfl h, com := fun h => absurd rfl h }) (fun x => e (congrArg F11.r x).symm) (sHN.trans sNT) h3 e3⟩
            · refine w_ixL (SqL.of hT) (v := .ref a8) rfl ?_
              walk_at "go"
              by_cases e : wr = ("set1" : Str)
              · refine .inr ⟨true, by simp [e], ?_⟩
                walk_at "go"
                refine w_setG h2T rfl rfl fun H3 h3 e3 => ?_
                exact ⟨⟨_, rfl⟩, fin ⟨z, l, s, r, "flip1", d, v, lk, ky, .non, .non⟩ _ H3 (show Rt (z) (l) (s) (r) ("flip1") (d) (v) (lk) (ky) (.non) (.non) from { R with wr := by decide +kernel, bcm := bd_non, bhd := bd_non, held := fun h => absurd rfl h, com := fun h => absurd rfl h }) (fun x => by have this : ("flip1" : Str) = wr := congrArg F11.w x; rw [e] at this; exact absurd this (by decide +kernel)) (sHN.trans sNT) h3 e3⟩
              · refine .inr ⟨false, by simp [e], ?_⟩
                walk_at "go"
                refine w_setG h2T rfl rfl fun H3 h3 e3 => ?_
                exact ⟨⟨_, rfl⟩, fin ⟨z, l, s, r, "set1", d, v, lk, ky, .non, .non⟩ _ H3 (show Rt (z) (l) (s) (r) ("set1") (d) (v) (lk) (ky) (.non) (.non) from { R with wr := by decide +kernel, bcm := bd_non, bhd := bd_non, held := fun h => absurd rfl h, com := fun h => absurd rfl h }) (fun x => e (congrArg F11.w x).symm) (sHN.trans sNT) h3 e3⟩
            · refine w_ixL (SqL.of hT) (v := .ref a9) rfl ?_
              walk_at "go"
              by_cases e : d = ("drift" : Str)
              · refine .inr ⟨true, by simp [e], ?_⟩
                walk_at "go"
                refine w_setG h2T rfl rfl fun H3 h3 e3 => ?_
                exact ⟨⟨_, rfl⟩, fin ⟨z, l, s, r, wr, "end", v, lk, ky, .non, .non⟩ _ H3 (show Rt (z) (l) (s) (r) (wr) ("end") (v) (lk) (ky) (.non) (.non) from { R with dv := by decide +kernel, vr := fun h => absurd h (by decide +kernel), bcm := bd_non, bhd := bd_non, held := fun h => absurd rfl h, com := fun h => absurd rfl h }) (fun x => by have this : ("end" : Str) = d := congrArg F11.d x; rw [e] at this; exact absurd this (by decide +kernel)) (sHN.trans sNT) h3 e3⟩
              · refine .inr ⟨false, by simp [e], ?_⟩
                walk_at "go"
                refine w_setG h2T rfl rfl fun H3 h3 e3 => ?_
                exact ⟨⟨_, rfl⟩, fin ⟨z, l, s, r, wr, "drift", v, lk, ky, .non, .non⟩ _ H3 (show Rt (z) (l) (s) (r) (wr) ("drift") (v) (lk) (ky) (.non) (.non) from { R with dv := by decide +kernel, vr := fun h => absurd h (by decide +kernel), bcm := bd_non, bhd := bd_non, held := fun h => absurd rfl h, com := fun h => absurd rfl h }) (fun x => e (congrArg F11.d x).symm) (sHN.trans sNT) h3 e3⟩
          · rw [decide_eq_false e2, Bool.and_false]
            refine ⟨false, rfl, iteF ?_⟩
            have h2N := sHN _ _ h2
            have htN := sHN _ _ ht2
            walk_at "go"
            refine ite2 (fun h => absurd h (by decide)) (fun _ => iteF ?_)
            walk_at "go"
            by_cases e : z = ("QX" : Str)
            · refine iteNo (by simp [e]) ?_
              walk_at "go"
              refine w_setG h2N rfl rfl fun H3 h3 e3 => ?_
              exact ⟨⟨_, rfl⟩, fin ⟨"QY", l, s, r, wr, d, v, lk, ky, cm, hd⟩ _ H3 (show Rt ("QY") (l) (s) (r) (wr) (d) (v) (lk) (ky) (cm) (hd) from { R with nm := qx_nm.2 }) (fun x => by have this : ("QY" : Str) = z := congrArg F11.z x; rw [e] at this; exact absurd this (by decide +kernel)) sHN h3 e3⟩
            · refine iteYes (by simp [e]) ?_
              walk_at "go"
              refine w_setG h2N rfl rfl fun H3 h3 e3 => ?_
              exact ⟨⟨_, rfl⟩, fin ⟨"QX", l, s, r, wr, d, v, lk, ky, cm, hd⟩ _ H3 (show Rt ("QX") (l) (s) (r) (wr) (d) (v) (lk) (ky) (cm) (hd) from { R with nm := qx_nm.1 }) (fun x => e (congrArg F11.z x).symm) sHN h3 e3⟩
        · rw [decide_eq_false e1, Bool.false_and]
          refine ⟨false, rfl, iteF ?_⟩
          have h2N := sHN _ _ h2
          have htN := sHN _ _ ht2
          walk_at "go"
          refine ite2 (fun h => absurd h (by decide)) (fun _ => iteF ?_)
          walk_at "go"
          by_cases e : z = ("QX" : Str)
          · refine iteNo (by simp [e]) ?_
            walk_at "go"
            refine w_setG h2N rfl rfl fun H3 h3 e3 => ?_
            exact ⟨⟨_, rfl⟩, fin ⟨"QY", l, s, r, wr, d, v, lk, ky, cm, hd⟩ _ H3 (show Rt ("QY") (l) (s) (r) (wr) (d) (v) (lk) (ky) (cm) (hd) from { R with nm := qx_nm.2 }) (fun x => by have this : ("QY" : Str) = z := congrArg F11.z x; rw [e] at this; exact absurd this (by decide +kernel)) sHN h3 e3⟩
          · refine iteYes (by simp [e]) ?_
            walk_at "go"
            refine w_setG h2N rfl rfl fun H3 h3 e3 => ?_
            exact ⟨⟨_, rfl⟩, fin ⟨"QX", l, s, r, wr, d, v, lk, ky, cm, hd⟩ _ H3 (show Rt ("QX") (l) (s) (r) (wr) (d) (v) (lk) (ky) (cm) (hd) from { R with nm := qx_nm.1 }) (fun x => e (congrArg F11.z x).symm) sHN h3 e3⟩
      · refine ite2 (fun h => absurd h (by decide)) (fun _ => iteF ?_)
        walk_at "go"
        refine ite2 (fun h => absurd h (by decide)) (fun _ => iteF ?_)
        walk_at "go"
        refine ite2 (fun h => absurd h (by decide)) (fun _ => iteF ?_)
        walk_at "go"
        refine ite2 (fun _ => ?_) (fun h => absurd rfl h)
        walk_at "go"
        unfold tSl
        walk_at "go"
        unfold tPart
        walk_at "go"
        refine ⟨3, rfl, ?_⟩
        refine ⟨6, rfl, ?_⟩
        refine w_slL (ys := [.str r, .str wr, .str d]) ht2 (by rfl) fun pL HL nL hL sL => ?_
        walk_at "go"
        refine new (by show 3 ≤ sizeLine; decide) fun pN HN nN hN sN => ?_
        have sHN : Same H2 HN := sL.trans sN
        refine ⟨.list [.str r, .str wr, .str d], .list [.str "keep", .str "store", .str "still"], .lst (SqL.of (sN _ _ hL)) (.cons (.str _) (.cons (.str _) (.cons (.str _) .nil))), .lst (SqL.of hN) (.cons (.str _) (.cons (.str _) (.cons (.str _) .nil))), sh_list (by simp [str_ld (wd_ok.1 _ R.rd), str_ld (wd_ok.2.1 _ R.wr), str_ld (wd_ok.2.2 _ R.dv)]), by decide +kernel, ?_⟩
        have h2N := sHN _ _ h2
        have htN := sHN _ _ ht2
        have ev : PyData.eqv (.list [.str r, .str wr, .str d]) (.list [.str "keep", .str "store", .str "still"]) = plainV (.str r) (.str wr) (.str d) := plain_eqv
        rw [ev]
        cases hm : plainV (.str r) (.str wr) (.str d) with
        | false =>
          refine ⟨false, rfl, iteF ?_⟩
          walk_at "go"
          by_cases e : z = ("QX" : Str)
          · refine iteNo (by simp [e]) ?_
            walk_at "go"
            refine w_setG h2N rfl rfl fun H3 h3 e3 => ?_
            exact ⟨⟨_, rfl⟩, fin ⟨"QY", l, s, r, wr, d, v, lk, ky, cm, hd⟩ _ H3 (show Rt ("QY") (l) (s) (r) (wr) (d) (v) (lk) (ky) (cm) (hd) from { R with nm := qx_nm.2 }) (fun x => by have this : ("QY" : Str) = z := congrArg F11.z x; rw [e] at this; exact absurd this (by decide +kernel)) sHN h3 e3⟩
          · refine iteYes (by simp [e]) ?_
            walk_at "go"
            refine w_setG h2N rfl rfl fun H3 h3 e3 => ?_
            exact ⟨⟨_, rfl⟩, fin ⟨"QX", l, s, r, wr, d, v, lk, ky, cm, hd⟩ _ H3 (show Rt ("QX") (l) (s) (r) (wr) (d) (v) (lk) (ky) (cm) (hd) from { R with nm := qx_nm.1 }) (fun x => e (congrArg F11.z x).symm) sHN h3 e3⟩
        | true =>
          refine ⟨true, rfl, iteT ?_⟩
          have pl : r = "keep" ∧ wr = "store" ∧ d = "still" := by
            unfold plainV at hm
            simp only [Bool.and_eq_true, decide_eq_true_iff, V.str.injEq] at hm
            exact ⟨hm.1.1, hm.1.2, hm.2⟩
          have hh : hd = .non := Classical.byContradiction fun y => by
            have := (R.held y).2.2.2.2.1
            rw [pl.2.1] at this
            exact absurd this (by decide +kernel)
          walk_at "go"
          refine ⟨rfl, ?_⟩
          by_cases e : cm = .non
          · refine ⟨false, by simp [e], iteF ?_⟩
            walk_at "go"
            refine w_setG h2N rfl rfl fun H3 h3 e3 => ?_
            exact ⟨⟨_, rfl⟩, fin ⟨z, l, s, r, wr, d, v, lk, ky, .str "QX", hd⟩ _ H3 (show Rt (z) (l) (s) (r) (wr) (d) (v) (lk) (ky) (.str "QX") (hd) from { R with bcm := bd_nm qx_nm.1, com := fun _ => pl, held := fun h => absurd hh h }) (fun x => by have this : V.str "QX" = cm := congrArg F11.cm x; rw [e] at this; cases this) sHN h3 e3⟩
          · refine ⟨true, by simp [e], iteT ?_⟩
            walk_at "go"
            refine w_setG h2N rfl rfl fun H3 h3 e3 => ?_
            exact ⟨⟨_, rfl⟩, fin ⟨z, l, s, r, wr, d, v, lk, ky, .non, hd⟩ _ H3 (show Rt (z) (l) (s) (r) (wr) (d) (v) (lk) (ky) (.non) (hd) from { R with bcm := bd_non, com := fun h => absurd rfl h, held := fun h => absurd hh h }) (fun x => e (congrArg F11.cm x).symm) sHN h3 e3⟩
    · rintro σ' H' ⟨⟨v5, rfl⟩, G, ok, ne, h3, pen3, kp3⟩
      walk_at "go"
      exact q t2 G H' ok ne h3 pen3 kp3
end
end Law

set_option Elab.async false
set_option linter.all false
set_option maxRecDepth 100000
set_option maxHeartbeats 4000000
namespace Law
open PySem PySem.Spec PySem.Calls PyProof.Rows L2 KG LamX
local macro_rules | `(tactic| walk_at "1") => `(tactic| first
  | (with_reducible refine w_var rfl ?_) | (with_reducible refine w_c ?_) | (with_reducible refine w_seq ?_) | (with_reducible refine w_asg ?_) | (with_reducible refine w_gname ?_) | (with_reducible refine w_op ?_) | (with_reducible refine w_un ?_)
  | (with_reducible refine w_add ?_) | (with_reducible refine w_sub ?_) | ((with_reducible refine' w_mod ?mo ?_); (case mo => first | assumption | decide | omega)) | (with_reducible refine w_and ?_) | (with_reducible refine w_or ?_) | (with_reducible refine w_xor ?_)
  | (with_reducible refine w_gt ?_) | (with_reducible refine w_lt ?_) | (with_reducible refine w_ge ?_) | (with_reducible refine w_le ?_) | ((with_reducible refine' w_eq ?sc ?_); (case sc => rfl)) | ((with_reducible refine' w_ne ?sc ?_); (case sc => rfl))
  | (with_reducible refine w_ret ?_) | (with_reducible refine w_next ?_) | (with_reducible refine w_ifs ?_) | (with_reducible refine w_ifx ?_) | (with_reducible refine w_test ?_) | (with_reducible refine w_tB ?_) | (with_reducible refine w_bl ?_)
  | ((with_reducible refine' w_ixL ?ixh ?ixa ?_); (case ixh => first | exact SqL.of (by assumption)); (case ixa => first | rfl | skip)) | ((with_reducible refine' w_ixT ?ixh ?ixa ?_); (case ixh => first | exact SqT.of (by assumption)); (case ixa => first | rfl | skip))
  | ((with_reducible refine' w_fld ?_)) | ((with_reducible refine' fld ?fh ?fc ?fn ?fl ?_); (case fh => assumption); (case fc => assumption); (case fn => assumption); (case fl => rfl)) | (with_reducible refine w_sfld ?_)
  | (with_reducible refine Or.inl ⟨_, rfl, ?_⟩) | (with_reducible refine w_gsub ?_) | (with_reducible refine w_andV ?_) | (with_reducible refine w_orV ?_)
  | (with_reducible refine w_nil ?_) | (with_reducible refine w_cons ?_) | (with_reducible refine w_tup ?_) | (with_reducible refine w_lst ?_) | (with_reducible refine w_and2 ?_) | (with_reducible refine w_or2 ?_) | (with_reducible refine w_not ?_) | (with_reducible refine w_cb ?_) | (with_reducible refine w_call ?_) | (with_reducible refine w_par ?_) | (with_reducible refine w_pnil ?_) | (with_reducible refine w_pcons ?_) | (with_reducible refine w_dput ?_) | (with_reducible refine w_dget ?_) | (with_reducible refine w_for ?_) | (with_reducible refine w_itup ?_) | (with_reducible refine w_ilist ?_) | (with_reducible refine w_irng ?_) | (with_reducible refine w_meth ?_) | (with_reducible refine w_make ?_) | (with_reducible refine w_makeK ?_) | (with_reducible refine w_methK ?_) | ((with_reducible refine' mth ?mh ?ml ?_); (case mh => assumption); (case ml => rfl)) | (with_reducible refine w_drop ?_))
local macro_rules | `(tactic| walk_at "go") => `(tactic| ((repeat (walk_at "1")); try dsimp only))
local macro_rules | `(tactic| walk_at "1") => `(tactic| first
  | (with_reducible refine w_notV ?_) | (with_reducible refine w_callK ?_) | (with_reducible refine w_lc ?_) | (with_reducible refine w_chain ?_) | (with_reducible refine w_neg ?_) | ((with_reducible refine' w_shr ?mo ?_); (case mo => first | assumption | omega)))
theorem low_ne {l s : Int} (h1 : l + s ≤ 32) (h2 : s ≤ 16) (h3 : 0 ≤ l) (h4 : 1 ≤ s) (h : (l + 1) % (33 - s) = l) : False := by
  by_cases e : l + 1 = 33 - s
  · rw [e, Int.emod_self] at h
    omega
  · rw [Int.emod_eq_of_lt (by omega) (by omega)] at h
    omega
section
variable {P : Program} {w : World} {K : PySem.W.Frag} {mg : Str → Option Value} {base : Heap}
theorem ok_other (D : DefAt K mg "_law_other" s__law_other ["_law_pen_here", "_law_parts"]) (B : B1 mg) (c_law_draw : Cal P w K mg base 1 "_law_draw" spDraw) (c_law_other_kind : Cal P w K mg base 2 "_law_other_kind" (spOther 3 fun more => ∃ c : Int, more = [.int c] ∧ 5 ≤ c ∧ c ≤ 7)) : Cal P w K mg base 3 "_law_other" (spOther 4 fun more => more = []) := by
  refine D.cal (k := 2) sc__law_other (fun vs H Q E h => ?_) (fun f cdv A outer s0 H vs Q E rm gd h => ?_)
  · obtain ⟨p, lp, t, cells, n, F, _, rfl, rfl, _⟩ := h
    rfl
  · obtain ⟨p, lp, t, cells, n, F, _, rfl, rfl, pen, hn, ht, R, q⟩ := h
    obtain ⟨z, l, s, r, wr, d, v, lk, ky, cm, hd⟩ := F
    have R : Rt z l s r wr d v lk ky cm hd := R
    have ht : H t = some (.lst [.str z, .int l, .int s, .str r, .str wr, .str d, .int v, lk, ky, cm, hd]) := ht
    have tp : t ≠ p := pen.nel ht (by show 11 ≠ 3; decide)
    refine ⟨_, (pss_cons (ps_set (i := 2) sc__law_other.nd rfl (Or.inl rfl) (pe_callTy call_list_of (by rfl) B.g_list (by decide +kernel) (pa_cons (pv 1) pa_nil)))
    (pss_cons (ps_set (i := 3) sc__law_other.nd rfl (Or.inl rfl) (pc c_law_draw rm (by decide) gd rfl (pa_cons (pv 0) (pa_cons pe_int pa_nil))))
    (pss_cons (ps_if (pt_cmpR op_gt (pv 3) pe_int (nomark _))
      (pss_one (ps_ret (pc c_law_other_kind rm (by decide) gd rfl (pa_cons (pv 0) (pa_cons (pv 1) (pa_cons (pv 3) pa_nil))))))
      pss_nil)
    (pss_mid (ps_if (pt_cmpR op_eq (pv 3) pe_int (nomark _))
      (pss_one (ps_asg (pe_ifExp (pt_cmpR op_ne (pe_ix ix_list (pv 1) pe_int (fun _ _ => rfl)) pe_str (nomark _)) pe_str pe_str) (pg_sub (pv 2) pe_int set_list)))
      (pss_one (ps_if (pt_cmpR op_eq (pv 3) pe_int (nomark _))
        (pss_one (ps_asg (pe_op op_mod (pe_callTy call_int1 (by rfl) B.g_int (by decide +kernel) (pa_cons (pe_op op_add (pe_ix ix_list (pv 1) pe_int (fun _ _ => rfl)) pe_int) pa_nil)) (pe_op op_sub pe_int (pe_ix ix_list (pv 1) pe_int (fun _ _ => rfl)))) (pg_sub (pv 2) pe_int set_list)))
        (pss_one (ps_if (PW.pt (pw_and (pt_cmpR op_eq (pv 3) pe_int (nomark _)) (pw_and1 (pt_cmpR op_ne (pe_ix ix_list (pv 1) pe_int (fun _ _ => rfl)) pe_str (nomark _)))))
          (pss_one (ps_asg (pe_op op_xor (pe_ix ix_list (pv 1) pe_int (fun _ _ => rfl)) pe_int) (pg_sub (pv 2) pe_int set_list)))
          (pss_one (ps_if (PW.pt (pw_and (pt_cmpR op_eq (pv 3) pe_int (nomark _)) (pw_and1 (pt_cmpR op_isN (pe_ix ix_list (pv 1) pe_int (fun _ _ => rfl)) pe_non (nomark _)))))
            (pss_one (ps_asg (pe_ifExp (pt_cmpR op_notN (pe_ix ix_list (pv 1) pe_int (fun _ _ => rfl)) pe_non (nomark _)) pe_non pe_str) (pg_sub (pv 2) pe_int set_list)))
            (pss_one (ps_if (pt_cmpR op_isN (pe_ix ix_list (pv 1) pe_int (fun _ _ => rfl)) pe_non (nomark _))
              (pss_one (ps_asg (pe_ifExp (pt_cmpR op_notN (pe_ix ix_list (pv 1) pe_int (fun _ _ => rfl)) pe_non (nomark _)) pe_non pe_str) (pg_sub (pv 2) pe_int set_list)))
              (pss_one (ps_asg (pe_ifExp (pt_cmpR op_ne (pe_ix ix_list (pv 1) pe_int (fun _ _ => rfl)) pe_str (nomark _)) pe_str pe_str) (pg_sub (pv 2) pe_int set_list))))))))))))
    (pss_one (ps_ret (pv 2))))))), ?_⟩
    walk_at "go"
    refine ⟨t, _, rfl, .inl (SqL.of ht), fun t2 n2 => ?_⟩
    have s2 : Same H (upd H t2 (.lst [.str z, .int l, .int s, .str r, .str wr, .str d, .int v, lk, ky, cm, hd])) := fun b o e => by
      rw [upd_ne (ne_of_none e n2)]
      exact e
    have h2' : upd H t2 (.lst [.str z, .int l, .int s, .str r, .str wr, .str d, .int v, lk, ky, cm, hd]) t2 = some (.lst [.str z, .int l, .int s, .str r, .str wr, .str d, .int v, lk, ky, cm, hd]) := upd_same
    generalize upd H t2 (.lst [.str z, .int l, .int s, .str r, .str wr, .str d, .int v, lk, ky, cm, hd]) = H1 at s2 h2' ⊢
    walk_at "go"
    refine ⟨p, lp, cells, n, 8, rfl, pen.same s2, by omega, by decide, by decide, fun at_ H2 a0 a8 pen2 k2 => ?_⟩
    have t2p : t2 ≠ p := (pen.ne n2).1
    have t2l : t2 ≠ lp := (pen.ne n2).2
    have h2 := k2 _ _ h2' t2p
    have k02 : Kp p H H2 := fun b o e nb => k2 b o (s2 _ _ e) nb
    have ht2 := k02 _ _ ht tp
    walk_at "go"
    by_cases g4 : 4 < at_
    · refine iteYes (decide_eq_true g4) ?_
      walk_at "go"
      refine ⟨p, lp, t, cells, n + 1, ⟨z, l, s, r, wr, d, v, lk, ky, cm, hd⟩, _, rfl, ⟨at_, rfl, by omega, by omega⟩, pen2, by omega, ht2, R, fun t3 G H3 ok ne h3 pen3 k3 => ?_⟩
      exact q t3 G H3 ok ne h3 pen3 fun b o e nb => k3 _ _ (k02 b o e nb) nb
    refine iteNo (decide_eq_false g4) ?_
    walk_at "go"
    refine w_mid (fun σ' H' => (∃ c : Int, σ' = [some (.ref p), some (.ref t), some (.ref t2), some (.int c)]) ∧ ∃ G : F11, G.ok ∧ G ≠ ⟨z, l, s, r, wr, d, v, lk, ky, cm, hd⟩ ∧ H' t2 = some (.lst G.vs) ∧ PenC (n + 4) p lp cells H' ∧ Kp p H H') ?_ ?_
    · have fin : ∀ (G : F11) (Hc H3 : Hp), Rt G.z G.l G.s G.r G.w G.d G.v G.lk G.ky G.cm G.hd → G ≠ ⟨z, l, s, r, wr, d, v, lk, ky, cm, hd⟩ → Same H2 Hc → H3 t2 = some (.lst G.vs) → (∀ b, b ≠ t2 → H3 b = Hc b) → ∃ G : F11, G.ok ∧ G ≠ ⟨z, l, s, r, wr, d, v, lk, ky, cm, hd⟩ ∧ H3 t2 = some (.lst G.vs) ∧ PenC (n + 4) p lp cells H3 ∧ Kp p H H3 := fun G Hc H3 ok ne sc h3 e3 => by
        refine ⟨G, ok, ne, h3, ?_, fun b o e nb => (e3 b (ne_of_none e n2)).trans (sc _ _ (k02 b o e nb))⟩
        obtain ⟨g1, g2, a, r, g3, g4⟩ := (pen2.same sc).mono (show n + 1 ≤ n + 4 by omega)
        exact ⟨g1, (e3 lp t2l.symm).trans g2, a, r, g3, (e3 p t2p.symm).trans g4⟩
      walk_at "go"
      have cc : at_ = 0 ∨ at_ = 1 ∨ at_ = 2 ∨ at_ = 3 ∨ at_ = 4 := by omega
      rcases cc with rfl | rfl | rfl | rfl | rfl
      · refine ite2 (fun _ => ?_) (fun h => absurd rfl h)
        walk_at "go"
        by_cases e : z = ("QX" : Str)
        · refine iteNo (by simp [e]) ?_
          walk_at "go"
          refine w_setG h2 rfl rfl fun H3 h3 e3 => ?_
          exact ⟨⟨_, rfl⟩, fin ⟨"QY", l, s, r, wr, d, v, lk, ky, cm, hd⟩ _ H3 (show Rt ("QY") (l) (s) (r) (wr) (d) (v) (lk) (ky) (cm) (hd) from { R with nm := qx_nm.2 }) (fun x => by have this : ("QY" : Str) = z := congrArg F11.z x; rw [e] at this; exact absurd this (by decide +kernel)) (Same.refl _) h3 e3⟩
        · refine iteYes (by simp [e]) ?_
          walk_at "go"
          refine w_setG h2 rfl rfl fun H3 h3 e3 => ?_
          exact ⟨⟨_, rfl⟩, fin ⟨"QX", l, s, r, wr, d, v, lk, ky, cm, hd⟩ _ H3 (show Rt ("QX") (l) (s) (r) (wr) (d) (v) (lk) (ky) (cm) (hd) from { R with nm := qx_nm.1 }) (fun x => e (congrArg F11.z x).symm) (Same.refl _) h3 e3⟩
      · refine ite2 (fun h => absurd h (by decide)) (fun _ => ?_)
        walk_at "go"
        refine ite2 (fun _ => ?_) (fun h => absurd rfl h)
        walk_at "go"
        have b1 := R.ls
        have b2 := R.s16
        have b3 := R.l0
        have b4 := R.s1
        refine w_mod (by omega) ?_
        walk_at "go"
        refine w_setG h2 rfl rfl fun H3 h3 e3 => ?_
        exact ⟨⟨_, rfl⟩, fin ⟨z, (l + 1) % (33 - s), s, r, wr, d, v, lk, ky, cm, hd⟩ _ H3 (show Rt (z) ((l + 1) % (33 - s)) (s) (r) (wr) (d) (v) (lk) (ky) (cm) (hd) from { R with l0 := Int.emod_nonneg _ (by omega), l31 := by have := Int.emod_lt_of_pos (l + 1) (show 0 < 33 - s by omega); omega, ls := by have := Int.emod_lt_of_pos (l + 1) (show 0 < 33 - s by omega); omega }) (fun x => by have this : (l + 1) % (33 - s) = l := congrArg F11.l x; exact low_ne b1 b2 b3 R.s1 this) (Same.refl _) h3 e3⟩
      · refine ite2 (fun h => absurd h (by decide)) (fun _ => ?_)
        walk_at "go"
        refine ite2 (fun h => absurd h (by decide)) (fun _ => ?_)
        walk_at "go"
        refine ite2 (fun _ => ?_) (fun h => absurd rfl h)
        walk_at "go"
        by_cases e : d = ("raise" : Str)
        · refine iteNo (by simp [e]) ?_
          walk_at "go"
          refine ite2 (fun h => absurd h (by decide)) (fun _ => iteF ?_)
          walk_at "go"
          refine ⟨rfl, ?_⟩
          by_cases hh : hd = .non
          · refine ⟨true, by simp [hh], iteT ?_⟩
            walk_at "go"
            refine ⟨rfl, ?_⟩
            by_cases e : ky = .non
            · refine ⟨false, by simp [e], iteF ?_⟩
              walk_at "go"
              refine w_setG h2 rfl rfl fun H3 h3 e3 => ?_
              exact ⟨⟨_, rfl⟩, fin ⟨z, l, s, r, wr, d, v, lk, .str "QX", cm, hd⟩ _ H3 (show Rt (z) (l) (s) (r) (wr) (d) (v) (lk) (.str "QX") (cm) (hd) from { R with bky := bd_nm qx_nm.1, held := fun h => absurd hh h }) (fun x => by have this : V.str "QX" = ky := congrArg F11.ky x; rw [e] at this; cases this) (Same.refl _) h3 e3⟩
            · refine ⟨true, by simp [e], iteT ?_⟩
              walk_at "go"
              refine w_setG h2 rfl rfl fun H3 h3 e3 => ?_
              exact ⟨⟨_, rfl⟩, fin ⟨z, l, s, r, wr, d, v, lk, .non, cm, hd⟩ _ H3 (show Rt (z) (l) (s) (r) (wr) (d) (v) (lk) (.non) (cm) (hd) from { R with bky := bd_non, held := fun h => absurd hh h }) (fun x => e (congrArg F11.ky x).symm) (Same.refl _) h3 e3⟩
          · refine ⟨false, by simp [hh], iteF ?_⟩
            walk_at "go"
            obtain ⟨y, rfl⟩ : ∃ y, hd = .str y := by
              rcases bd_on R.bhd with h | ⟨y, h, _⟩
              · exact absurd h hh
              · exact ⟨y, h⟩
            have hk := R.held hh
            walk_at "go"
            by_cases e : y = ("QX" : Str)
            · refine iteNo (by simp [e]) ?_
              walk_at "go"
              refine w_setG h2 rfl rfl fun H3 h3 e3 => ?_
              exact ⟨⟨_, rfl⟩, fin ⟨z, l, s, r, wr, d, v, lk, ky, cm, .str "QY"⟩ _ H3 (show Rt (z) (l) (s) (r) (wr) (d) (v) (lk) (ky) (cm) (.str "QY") from { R with bhd := bd_nm qx_nm.2, held := fun _ => hk }) (fun x => by have this : V.str "QY" = .str y := congrArg F11.hd x; rw [e] at this; exact absurd this (by decide +kernel)) (Same.refl _) h3 e3⟩
            · refine iteYes (by simp [e]) ?_
              walk_at "go"
              refine w_setG h2 rfl rfl fun H3 h3 e3 => ?_
              exact ⟨⟨_, rfl⟩, fin ⟨z, l, s, r, wr, d, v, lk, ky, cm, .str "QX"⟩ _ H3 (show Rt (z) (l) (s) (r) (wr) (d) (v) (lk) (ky) (cm) (.str "QX") from { R with bhd := bd_nm qx_nm.1, held := fun _ => hk }) (fun x => by have this : V.str "QX" = .str y := congrArg F11.hd x; injection this with this; exact e this.symm) (Same.refl _) h3 e3⟩
        · refine iteYes (by simp [e]) ?_
          walk_at "go"
          have x1 := xor1 R.s1 R.v0 R.vf
          refine w_setG h2 rfl rfl fun H3 h3 e3 => ?_
          exact ⟨⟨_, rfl⟩, fin ⟨z, l, s, r, wr, d, Builtin.bitXor v 1, lk, ky, cm, hd⟩ _ H3 (show Rt (z) (l) (s) (r) (wr) (d) (Builtin.bitXor v 1) (lk) (ky) (cm) (hd) from { R with v0 := x1.1, vf := x1.2.1, vr := fun h => absurd h e }) (fun x => x1.2.2 (congrArg F11.v x)) (Same.refl _) h3 e3⟩
      · refine ite2 (fun h => absurd h (by decide)) (fun _ => ?_)
        walk_at "go"
        refine ite2 (fun h => absurd h (by decide)) (fun _ => ?_)
        walk_at "go"
        refine ite2 (fun h => absurd h (by decide)) (fun _ => iteF ?_)
        walk_at "go"
        refine ite2 (fun _ => ?_) (fun h => absurd rfl h)
        walk_at "go"
        refine ⟨rfl, ?_⟩
        by_cases hh : hd = .non
        · refine ⟨true, by simp [hh], iteT ?_⟩
          walk_at "go"
          refine ⟨rfl, ?_⟩
          by_cases e : lk = .non
          · refine ⟨false, by simp [e], iteF ?_⟩
            walk_at "go"
            refine w_setG h2 rfl rfl fun H3 h3 e3 => ?_
            exact ⟨⟨_, rfl⟩, fin ⟨z, l, s, r, wr, d, v, .str "QX", ky, cm, hd⟩ _ H3 (show Rt (z) (l) (s) (r) (wr) (d) (v) (.str "QX") (ky) (cm) (hd) from { R with blk := bd_nm qx_nm.1, held := fun h => absurd hh h }) (fun x => by have this : V.str "QX" = lk := congrArg F11.lk x; rw [e] at this; cases this) (Same.refl _) h3 e3⟩
          · refine ⟨true, by simp [e], iteT ?_⟩
            walk_at "go"
            refine w_setG h2 rfl rfl fun H3 h3 e3 => ?_
            exact ⟨⟨_, rfl⟩, fin ⟨z, l, s, r, wr, d, v, .non, ky, cm, hd⟩ _ H3 (show Rt (z) (l) (s) (r) (wr) (d) (v) (.non) (ky) (cm) (hd) from { R with blk := bd_non, held := fun h => absurd hh h }) (fun x => e (congrArg F11.lk x).symm) (Same.refl _) h3 e3⟩
        · refine ⟨false, by simp [hh], iteF ?_⟩
          walk_at "go"
          refine ⟨rfl, false, by simp [hh], iteF ?_⟩
          walk_at "go"
          obtain ⟨y, rfl⟩ : ∃ y, hd = .str y := by
            rcases bd_on R.bhd with h | ⟨y, h, _⟩
            · exact absurd h hh
            · exact ⟨y, h⟩
          have hk := R.held hh
          walk_at "go"
          by_cases e : y = ("QX" : Str)
          · refine iteNo (by simp [e]) ?_
            walk_at "go"
            refine w_setG h2 rfl rfl fun H3 h3 e3 => ?_
            exact ⟨⟨_, rfl⟩, fin ⟨z, l, s, r, wr, d, v, lk, ky, cm, .str "QY"⟩ _ H3 (show Rt (z) (l) (s) (r) (wr) (d) (v) (lk) (ky) (cm) (.str "QY") from { R with bhd := bd_nm qx_nm.2, held := fun _ => hk }) (fun x => by have this : V.str "QY" = .str y := congrArg F11.hd x; rw [e] at this; exact absurd this (by decide +kernel)) (Same.refl _) h3 e3⟩
          · refine iteYes (by simp [e]) ?_
            walk_at "go"
            refine w_setG h2 rfl rfl fun H3 h3 e3 => ?_
            exact ⟨⟨_, rfl⟩, fin ⟨z, l, s, r, wr, d, v, lk, ky, cm, .str "QX"⟩ _ H3 (show Rt (z) (l) (s) (r) (wr) (d) (v) (lk) (ky) (cm) (.str "QX") from { R with bhd := bd_nm qx_nm.1, held := fun _ => hk }) (fun x => by have this : V.str "QX" = .str y := congrArg F11.hd x; injection this with this; exact e this.symm) (Same.refl _) h3 e3⟩
      · refine ite2 (fun h => absurd h (by decide)) (fun _ => ?_)
        walk_at "go"
        refine ite2 (fun h => absurd h (by decide)) (fun _ => ?_)
        walk_at "go"
        refine ite2 (fun h => absurd h (by decide)) (fun _ => iteF ?_)
        walk_at "go"
        refine ite2 (fun h => absurd h (by decide)) (fun _ => iteF ?_)
        walk_at "go"
        refine ⟨rfl, ?_⟩
        by_cases hh : hd = .non
        · refine ⟨true, by simp [hh], iteT ?_⟩
          walk_at "go"
          refine ⟨rfl, ?_⟩
          by_cases e : ky = .non
          · refine ⟨false, by simp [e], iteF ?_⟩
            walk_at "go"
            refine w_setG h2 rfl rfl fun H3 h3 e3 => ?_
            exact ⟨⟨_, rfl⟩, fin ⟨z, l, s, r, wr, d, v, lk, .str "QX", cm, hd⟩ _ H3 (show Rt (z) (l) (s) (r) (wr) (d) (v) (lk) (.str "QX") (cm) (hd) from { R with bky := bd_nm qx_nm.1, held := fun h => absurd hh h }) (fun x => by have this : V.str "QX" = ky := congrArg F11.ky x; rw [e] at this; cases this) (Same.refl _) h3 e3⟩
          · refine ⟨true, by simp [e], iteT ?_⟩
            walk_at "go"
            refine w_setG h2 rfl rfl fun H3 h3 e3 => ?_
            exact ⟨⟨_, rfl⟩, fin ⟨z, l, s, r, wr, d, v, lk, .non, cm, hd⟩ _ H3 (show Rt (z) (l) (s) (r) (wr) (d) (v) (lk) (.non) (cm) (hd) from { R with bky := bd_non, held := fun h => absurd hh h }) (fun x => e (congrArg F11.ky x).symm) (Same.refl _) h3 e3⟩
        · refine ⟨false, by simp [hh], iteF ?_⟩
          walk_at "go"
          obtain ⟨y, rfl⟩ : ∃ y, hd = .str y := by
            rcases bd_on R.bhd with h | ⟨y, h, _⟩
            · exact absurd h hh
            · exact ⟨y, h⟩
          have hk := R.held hh
          walk_at "go"
          by_cases e : y = ("QX" : Str)
          · refine iteNo (by simp [e]) ?_
            walk_at "go"
            refine w_setG h2 rfl rfl fun H3 h3 e3 => ?_
            exact ⟨⟨_, rfl⟩, fin ⟨z, l, s, r, wr, d, v, lk, ky, cm, .str "QY"⟩ _ H3 (show Rt (z) (l) (s) (r) (wr) (d) (v) (lk) (ky) (cm) (.str "QY") from { R with bhd := bd_nm qx_nm.2, held := fun _ => hk }) (fun x => by have this : V.str "QY" = .str y := congrArg F11.hd x; rw [e] at this; exact absurd this (by decide +kernel)) (Same.refl _) h3 e3⟩
          · refine iteYes (by simp [e]) ?_
            walk_at "go"
            refine w_setG h2 rfl rfl fun H3 h3 e3 => ?_
            exact ⟨⟨_, rfl⟩, fin ⟨z, l, s, r, wr, d, v, lk, ky, cm, .str "QX"⟩ _ H3 (show Rt (z) (l) (s) (r) (wr) (d) (v) (lk) (ky) (cm) (.str "QX") from { R with bhd := bd_nm qx_nm.1, held := fun _ => hk }) (fun x => by have this : V.str "QX" = .str y := congrArg F11.hd x; injection this with this; exact e this.symm) (Same.refl _) h3 e3⟩
    · rintro σ' H' ⟨⟨v5, rfl⟩, G, ok, ne, h3, pen3, kp3⟩
      walk_at "go"
      exact q t2 G H' ok ne h3 pen3 kp3
end
end Law

set_option Elab.async false
set_option linter.all false
set_option maxRecDepth 100000
set_option maxHeartbeats 4000000
namespace Law
open PySem PySem.Spec PySem.Calls PyProof.Rows L2 KG LamX
local macro_rules | `(tactic| walk_at "1") => `(tactic| first
  | (with_reducible refine w_var rfl ?_) | (with_reducible refine w_c ?_) | (with_reducible refine w_seq ?_) | (with_reducible refine w_asg ?_) | (with_reducible refine w_gname ?_) | (with_reducible refine w_op ?_) | (with_reducible refine w_un ?_)
  | (with_reducible refine w_add ?_) | (with_reducible refine w_sub ?_) | ((with_reducible refine' w_mod ?mo ?_); (case mo => first | assumption | decide | omega)) | (with_reducible refine w_and ?_) | (with_reducible refine w_or ?_) | (with_reducible refine w_xor ?_)
  | (with_reducible refine w_gt ?_) | (with_reducible refine w_lt ?_) | (with_reducible refine w_ge ?_) | (with_reducible refine w_le ?_) | ((with_reducible refine' w_eq ?sc ?_); (case sc => rfl)) | ((with_reducible refine' w_ne ?sc ?_); (case sc => rfl))
  | (with_reducible refine w_ret ?_) | (with_reducible refine w_next ?_) | (with_reducible refine w_ifs ?_) | (with_reducible refine w_ifx ?_) | (with_reducible refine w_test ?_) | (with_reducible refine w_tB ?_) | (with_reducible refine w_bl ?_)
  | ((with_reducible refine' w_ixL ?ixh ?ixa ?_); (case ixh => first | exact SqL.of (by assumption)); (case ixa => first | rfl | skip)) | ((with_reducible refine' w_ixT ?ixh ?ixa ?_); (case ixh => first | exact SqT.of (by assumption)); (case ixa => first | rfl | skip))
  | ((with_reducible refine' w_fld ?_)) | ((with_reducible refine' fld ?fh ?fc ?fn ?fl ?_); (case fh => assumption); (case fc => assumption); (case fn => assumption); (case fl => rfl)) | (with_reducible refine w_sfld ?_)
  | (with_reducible refine Or.inl ⟨_, rfl, ?_⟩) | (with_reducible refine w_gsub ?_) | (with_reducible refine w_andV ?_) | (with_reducible refine w_orV ?_)
  | (with_reducible refine w_nil ?_) | (with_reducible refine w_cons ?_) | (with_reducible refine w_tup ?_) | (with_reducible refine w_lst ?_) | (with_reducible refine w_and2 ?_) | (with_reducible refine w_or2 ?_) | (with_reducible refine w_not ?_) | (with_reducible refine w_cb ?_) | (with_reducible refine w_call ?_) | (with_reducible refine w_par ?_) | (with_reducible refine w_pnil ?_) | (with_reducible refine w_pcons ?_) | (with_reducible refine w_dput ?_) | (with_reducible refine w_dget ?_) | (with_reducible refine w_for ?_) | (with_reducible refine w_itup ?_) | (with_reducible refine w_ilist ?_) | (with_reducible refine w_irng ?_) | (with_reducible refine w_meth ?_) | (with_reducible refine w_make ?_) | (with_reducible refine w_makeK ?_) | (with_reducible refine w_methK ?_) | ((with_reducible refine' mth ?mh ?ml ?_); (case mh => assumption); (case ml => rfl)) | (with_reducible refine w_drop ?_))
local macro_rules | `(tactic| walk_at "go") => `(tactic| ((repeat (walk_at "1")); try dsimp only))
local macro_rules | `(tactic| walk_at "1") => `(tactic| first
  | (with_reducible refine w_notV ?_) | (with_reducible refine w_callK ?_) | (with_reducible refine w_lc ?_) | (with_reducible refine w_chain ?_) | (with_reducible refine w_neg ?_) | ((with_reducible refine' w_shr ?mo ?_); (case mo => first | assumption | omega)))
/-- the reasons -/
theorem due_word {n lo sz r w d rs lk ky cm hd : V} {z : Str} (h : dueF n lo sz r w d rs lk ky cm hd = some (.inl z)) : PyData.strOk z = true := by
  have step : ∀ {c : Prop} [Decidable c] {a : Str ⊕ V} {b : Option (Str ⊕ V)}, (if c then some a else b) = some (.inl z) → a = .inl z ∨ b = some (.inl z) := fun {c _ a b} h => by
    by_cases hc : c
    · rw [if_pos hc] at h
      injection h with h
      exact .inl h
    · rw [if_neg hc] at h
      exact .inr h
  unfold dueF at h
  repeat' (first | (rcases step h with h | h <;> first | (injection h with h; rw [← h]; decide +kernel) | (cases h) | skip) | (cases h))
theorem due_val {n lo sz r w d rs lk ky cm hd v : V} (h : dueF n lo sz r w d rs lk ky cm hd = some (.inr v)) : v = r ∨ v = w ∨ v = d := by
  have step : ∀ {c : Prop} [Decidable c] {a : Str ⊕ V} {b : Option (Str ⊕ V)}, (if c then some a else b) = some (.inr v) → a = .inr v ∨ b = some (.inr v) := fun {c _ a b} h => by
    by_cases hc : c
    · rw [if_pos hc] at h
      injection h with h
      exact .inl h
    · rw [if_neg hc] at h
      exact .inr h
  unfold dueF at h
  rcases step h with h | h
  · cases h
  rcases step h with h | h
  · cases h
  rcases step h with h | h
  · injection h with h
    exact .inl h.symm
  rcases step h with h | h
  · injection h with h
    exact .inr (.inl h.symm)
  rcases step h with h | h
  · injection h with h
    exact .inr (.inr h.symm)
  repeat' (first | (rcases step h with h | h <;> first | (cases h; done) | skip) | (cases h; done))
theorem Sc.scal {x : V} (h : Sc x) : Scal x := by
  rcases h with h | h | ⟨z, h, _, h2⟩
  · exact .inl h
  · exact .inr (.inr (.inl h))
  · exact .inr (.inr (.inr ⟨z, h, asc_ok h2⟩))
theorem same_sc {H : Hp} {d : Nat} {x : V} (h : Scal x) : SameV H (d + 1) x x := .inl ⟨rfl, h⟩
/-- two sequences that are the same part by part -/
inductive SamA (H : Hp) (d : Nat) : List V → List V → Prop
  | nil : SamA H d [] []
  | cons {x y : V} {xs ys : List V} : SameV H d x y → SamA H d xs ys → SamA H d (x :: xs) (y :: ys)
theorem SamA.len {H : Hp} {d : Nat} {xs ys : List V} (h : SamA H d xs ys) : xs.length = ys.length := by
  induction h with
  | nil => rfl
  | cons _ _ ih => rw [List.length_cons, List.length_cons, ih]
theorem SamA.at_ {H : Hp} {d : Nat} {xs ys : List V} (h : SamA H d xs ys) : ∀ (i : Nat) (u v : V), xs[i]? = some u → ys[i]? = some v → SameV H d u v := by
  induction h with
  | nil => intro i u v h; cases h
  | cons k _ ih =>
    intro i u v h1 h2
    cases i with
    | zero =>
      cases h1
      cases h2
      exact k
    | succ i => exact ih i u v h1 h2
theorem same_lst {H : Hp} {d : Nat} {a b : Addr} {xs ys : List V} (ha : H a = some (.lst xs)) (hb : H b = some (.lst ys)) (hl : ys.length ≤ 60) (k : SamA H d xs ys) : SameV H (d + 1) (.ref a) (.ref b) :=
  .inr (.inr ⟨a, b, xs, ys, rfl, rfl, k.len, hl, .inl ⟨ha, hb⟩, k.at_⟩)
theorem same_tup {H : Hp} {d : Nat} {a b : Addr} {xs ys : List V} (ha : H a = some (.tup xs)) (hb : H b = some (.tup ys)) (hl : ys.length ≤ 60) (k : SamA H d xs ys) : SameV H (d + 1) (.ref a) (.ref b) :=
  .inr (.inr ⟨a, b, xs, ys, rfl, rfl, k.len, hl, .inr ⟨ha, hb⟩, k.at_⟩)
theorem Odd.same {H : Hp} {x : V} (h : Odd H x) : SameV H 3 x x := by
  have sA : Scal (.str "A") := .inr (.inr (.inr ⟨_, rfl, by decide +kernel⟩))
  have sk : Scal (.str "keep") := .inr (.inr (.inr ⟨_, rfl, by decide +kernel⟩))
  rcases h with h | ⟨b, rfl⟩ | ⟨a, o, rfl, ha, h⟩
  · exact same_sc h.scal
  · exact same_sc (.inr (.inl ⟨b, rfl⟩))
  · rcases h with rfl | rfl | rfl | rfl | rfl | ⟨b, c, rfl, hb, hc⟩
    · exact same_tup ha ha (by decide) (.cons (same_sc sA) .nil)
    · exact same_lst ha ha (by decide) (.cons (same_sc sA) .nil)
    · exact .inr (.inl ⟨a, rfl, rfl, ha⟩)
    · exact same_lst ha ha (by decide) .nil
    · exact same_tup ha ha (by decide) .nil
    · exact same_lst ha ha (by show 2 ≤ 60; decide) (.cons (same_lst hb hb (by decide) (.cons (same_sc (.inr (.inr (.inl ⟨1, rfl⟩)))) .nil)) (.cons (same_tup hc hc (by decide) (.cons (same_sc sk) .nil)) .nil))
theorem Rt.ods {K : PySem.W.Frag} {H : Hp} {z : Str} {l s : Int} {r w d : Str} {v : Int} {lk ky cm hd : V} (R : Rt z l s r w d v lk ky cm hd) : OdV K H (.str z) ∧ OdV K H (.int l) ∧ OdV K H (.int s) ∧ OdV K H (.str r) ∧ OdV K H (.str w) ∧ OdV K H (.str d) ∧ OdV K H (.int v) ∧ OdV K H lk ∧ OdV K H ky ∧ OdV K H cm ∧ OdV K H hd := by
  have nm : ∀ {y : Str}, isNm (.str y) = true → OdV K H (.str y) := fun {y} h => by
    have h8 : y.length ≤ 8 := by
      unfold isNm at h
      rw [Bool.and_eq_true] at h
      have h1 : (decide (1 ≤ y.length ∧ y.length ≤ 8) && y.cps.toList.all (fun c => decide (c ∈ nameL.cps.toList))) = true := h.1
      rw [Bool.and_eq_true, decide_eq_true_iff] at h1
      exact h1.1.2
    exact od_str (Nat.le_trans h8 (by decide)) (by simpa [PyData.canLay0] using nm_ok h)
  have on : ∀ {x : V}, bdP x = false → OdV K H x := fun {x} h => by
    by_cases e : x = .non
    · subst e
      exact od_non
    · have h2 : isNm x = true := by
        unfold bdP at h
        rw [decide_eq_false e] at h
        simpa using h
      obtain ⟨y, rfl⟩ := nm_str h2
      exact nm h2
  have hl : (∀ z ∈ RD, z.length ≤ 100) ∧ (∀ z ∈ WR, z.length ≤ 100) ∧ (∀ z ∈ DV, z.length ≤ 100) := by decide +kernel
  exact ⟨nm R.nm, od_int _, od_int _, od_str (hl.1 _ R.rd) (by simpa [PyData.canLay0] using wd_ok.1 _ R.rd), od_str (hl.2.1 _ R.wr) (by simpa [PyData.canLay0] using wd_ok.2.1 _ R.wr), od_str (hl.2.2 _ R.dv) (by simpa [PyData.canLay0] using wd_ok.2.2 _ R.dv), od_int _, on R.blk, on R.bky, on R.bcm, on R.bhd⟩
theorem Rt.ons {z : Str} {l s : Int} {r w d : Str} {v : Int} {lk ky cm hd : V} (R : Rt z l s r w d v lk ky cm hd) : ON lk ∧ ON ky ∧ ON cm ∧ ON hd := by
  have f : ∀ {x : V}, bdP x = false → ON x := fun h => (bd_on h).imp id fun ⟨z, e, _⟩ => ⟨z, e⟩
  exact ⟨f R.blk, f R.bky, f R.bcm, f R.bhd⟩
def spLaw (K : PySem.W.Frag) : Sp := fun vs H Q _ => ∃ (a : Addr) (ns : List Int), vs = [.ref a] ∧ SqL K H a (ns.map V.int) ∧ ns.length ≤ 63 ∧ ∀ H', Q (.bl true) H'
section
variable {P : Program} {w : World} {K : PySem.W.Frag} {mg : Str → Option Value} {base : Heap} {C CF cK cF fEF : Addr} {mc : Value}
theorem ok_law {fl fF : Addr} {fd fdF fdEF : FuncData} {ds3 : List Value} (F : Fun K "law" "law" s_law fl fd) (B : B1 mg) (T : K8 K mg C mc) (TF : F19 K mg CF)
    (c_law_pen : Cal P w K mg base 1 "_law_pen" (spPen K)) (c_law_draw : Cal P w K mg base 1 "_law_draw" spDraw) (c_law_right : Cal P w K mg base 3 "_law_right" spRight) (c_law_spoil : Cal P w K mg base 3 "_law_spoil" spSpoil)
    (c_law_due : Cal P w K mg base 2 "_law_due" (spDue K)) (c_law_refused : Cal P w K mg base 7 "_law_refused" (spRef K)) (c_law_same : Cal P w K mg base 5 "_law_same" (spSame 4)) (c_law_make : Cal P w K mg base 7 "_law_make" (spMake K C CF))
    (c_law_attributes : Cal P w K mg base 1 "_law_attributes" (spAttr C CF)) (c_law_other : Cal P w K mg base 3 "_law_other" (spOther 4 fun more => more = []))
    (MKF : Mk K CF fF) (GIF : Gd P w K mg base (L2.CX P w) 5 fF fdF ["self", "name", "low", "size", "reading", "writing", "device", "reset", "lock", "key", "commit", "held"] (spIF K C CF cK cF))
    (bF3 : Binds K fdF ["self", "name", "low", "size", "reading", "writing", "device", "reset", "lock", "key", "commit", "held"] ds3) (vd3 : Vals [.str "keep", .str "store", .str "still", .int 0, .non, .non, .non, .non] ds3)
    (FEQF : Gd P w K mg base CX0 3 fEF fdEF ["self", "other"] (spFEq K C CF)) (bEQF : Binds K fdEF ["self", "other"] []) (eqIF : PySem.W.findIn K (.ref CF) "__eq__" = some (some (.ref fEF))) (eqFF : PySem.W.isFn K (.ref fEF) = true)
    (neIF : PySem.W.findIn K (.ref CF) "__ne__" = some (some (.builtin "object.__ne__"))) (isMF : PySem.W.mroIn K CF (.type "object") = some true) (isCF : PySem.W.findIn K (.ref CF) "__class__" = some (some (.builtin "object.__class__")))
    (nfCF : PySem.W.notFirst K CF (.ref CF) = true) (nfS : PySem.W.notFirst K CF (.type "str") = true) (kSF : PySem.W.kitOne K (.type "str") (.ref CF) = some false) : Gd P w K mg base CX0 8 fl fd ["_law_script"] (spLaw K) := by
  refine gd0 (k := 7) F sc_law (fun vs H Q E h => ?_) (fun cdv A outer s H vs Q E rm gd h => ?_)
  · obtain ⟨a, ns, rfl, _⟩ := h
    rfl
  · obtain ⟨a, ns, rfl, hS, hlen, q⟩ := h
    refine ⟨_, (pss_cons (ps_set (i := 1) sc_law.nd rfl (Or.inl rfl) (pc c_law_pen rm (by decide) gd rfl (pa_cons (pv 0) pa_nil)))
    (pss_cons (ps_for PassesOwn.never rfl (pi_range1 rfl B.g_range (pa_cons pe_int pa_nil)) (pg_name (i := 2) sc_law.nd rfl (Or.inl rfl))
      (pss_cons (ps_set (i := 3) sc_law.nd rfl (Or.inl rfl) (pc c_law_right rm (by decide) gd rfl (pa_cons (pv 1) pa_nil)))
      (pss_cons (ps_for PassesOwn.never rfl (pi_range1 rfl B.g_range (pa_cons (pe_ix ix_list (pe_lst (pa_cons pe_int (pa_cons pe_int (pa_cons pe_int (pa_cons pe_int pa_nil))))) (pc c_law_draw rm (by decide) gd rfl (pa_cons (pv 1) (pa_cons pe_int pa_nil))) (fun _ _ => rfl)) pa_nil)) (pg_name (i := 4) sc_law.nd rfl (Or.inl rfl))
        (pss_one (ps_expr (pc c_law_spoil rm (by decide) gd rfl (pa_cons (pv 1) (pa_cons (pv 3) pa_nil))))))
      (pss_cons (ps_set (i := 5) sc_law.nd rfl (Or.inl rfl) (pc c_law_due rm (by decide) gd rfl (pa_cons (pv 3) pa_nil)))
      (pss_cons (ps_set (i := 6) sc_law.nd rfl (Or.inl rfl) (pc c_law_refused rm (by decide) gd rfl (pa_cons (pv 3) pa_nil)))
      (pss_one (ps_if (pt_val (pe_callB call_isi (by rfl) B.g_isinstance (by decide +kernel) (pa_cons (pv 5) (pa_cons (pe_bltn (v := .ty "list") rfl B.g_list (by decide +kernel) rfl) pa_nil))))
        (pss_one (ps_if (pt_not (pt_val (pc c_law_same rm (by decide) gd rfl (pa_cons (pv 6) (pa_cons (pe_tup (pa_cons pe_str (pa_cons (pe_ix ix_list (pv 5) pe_int (fun _ _ => rfl)) (pa_cons pe_bl (pa_cons pe_bl pa_nil))))) pa_nil)))))
          (pss_one (ps_ret pe_bl))
          pss_nil))
        (pss_one (ps_if (pt_cmpR op_notN (pv 5) pe_non (nomark _))
          (pss_one (ps_if (pt_not (pt_val (pc c_law_same rm (by decide) gd rfl (pa_cons (pv 6) (pa_cons (pe_tup (pa_cons pe_str (pa_cons (pe_ix ix_list (pv 3) pe_int (fun _ _ => rfl)) (pa_cons (pv 5) (pa_cons pe_bl (pa_cons pe_bl pa_nil)))))) pa_nil)))))
            (pss_one (ps_ret pe_bl))
            pss_nil))
          (pss_cons (ps_set (i := 7) sc_law.nd rfl (Or.inl rfl) (pc c_law_make rm (by decide) gd rfl (pa_cons (pv 3) pa_nil)))
          (pss_cons (ps_set (i := 8) sc_law.nd rfl (Or.inl rfl) (pe_lst (pa_cons (pe_fld (pe_fld (pv 7) rfl) rfl) (pa_cons (pe_fld (pe_fld (pv 7) rfl) rfl) (pa_cons (pe_fld (pe_fld (pv 7) rfl) rfl) pa_nil)))))
          (pss_mid (ps_if (PW.pt (pw_or (pt_cmpR op_notN (pv 6) pe_non (nomark _)) (pw_or (pt_not (pt_val (pc c_law_same rm (by decide) gd rfl (pa_cons (pc c_law_attributes rm (by decide) gd rfl (pa_cons (pv 7) pa_nil)) (pa_cons (pv 3) pa_nil))))) (pw_or1 (pt_not (pt_val (pc c_law_same rm (by decide) gd rfl (pa_cons (pv 8) (pa_cons (pe_slice sl_list (pv 3) (po_some pe_int) (po_some pe_int)) pa_nil)))))))))
            (pss_one (ps_ret pe_bl))
            pss_nil)
          (pss_mid (ps_if (pt_cmpR (op_eqD rm.units) (pe_slice sl_list (pv 3) (po_some pe_int) po_none) (pe_lst (pa_cons pe_str (pa_cons pe_str (pa_cons pe_str (pa_cons pe_int (pa_cons pe_non (pa_cons pe_non (pa_cons pe_non (pa_cons pe_non pa_nil))))))))) (nomark _))
            (pss_one (ps_if (pt_not (pt_val (pc c_law_same rm (by decide) gd rfl (pa_cons (pc c_law_attributes rm (by decide) gd rfl (pa_cons (pe_gmake (E := fun _ _ _ => False) MKF GIF (rm.mono (by decide)) gd rfl TF.g bF3 vd3 pass_no (pa_cons (pe_ix ix_list (pv 3) pe_int (fun _ _ => rfl)) (pa_cons (pe_ix ix_list (pv 3) pe_int (fun _ _ => rfl)) (pa_cons (pe_ix ix_list (pv 3) pe_int (fun _ _ => rfl)) pa_nil)))) pa_nil)) (pa_cons (pv 3) pa_nil)))))
              (pss_one (ps_ret pe_bl))
              pss_nil))
            pss_nil)
          (pss_cons (ps_set (i := 9) sc_law.nd rfl (Or.inl rfl) (pc c_law_make rm (by decide) gd rfl (pa_cons (pc c_law_other rm (by decide) gd rfl (pa_cons (pv 1) (pa_cons (pv 3) pa_nil))) pa_nil)))
          (pss_cons (ps_set (i := 10) sc_law.nd rfl (Or.inl rfl) (pe_lst (pa_cons (pe_cmpR (op_eqO FEQF (rm.mono (by decide)) gd eqIF eqFF bEQF pass0) (pv 7) (pc c_law_make rm (by decide) gd rfl (pa_cons (pe_callTy call_list_of (by rfl) B.g_list (by decide +kernel) (pa_cons (pv 3) pa_nil)) pa_nil)) (nomark _)) (pa_cons (pe_cmpR (op_eqO FEQF (rm.mono (by decide)) gd eqIF eqFF bEQF pass0) (pv 7) (pv 9) (nomark _)) (pa_cons (pe_cmpR (op_eqO FEQF (rm.mono (by decide)) gd eqIF eqFF bEQF pass0) (pv 7) (pe_ix ix_list (pv 3) pe_int (fun _ _ => rfl)) (nomark _)) (pa_cons (pe_cmpR (op_neO FEQF (rm.mono (by decide)) gd eqIF eqFF neIF isMF bEQF pass0) (pv 7) (pv 9) (nomark _)) pa_nil))))))
          (pss_one (ps_if (pt_not (pt_val (pc c_law_same rm (by decide) gd rfl (pa_cons (pv 10) (pa_cons (pe_lst (pa_cons pe_bl (pa_cons pe_bl (pa_cons pe_bl (pa_cons pe_bl pa_nil))))) pa_nil)))))
            (pss_one (ps_ret pe_bl))
            pss_nil)))))))))))))))))
    (pss_one (ps_ret pe_bl)))), ?_⟩
    walk_at "go"
    refine ⟨a, ns, rfl, hS, hlen, fun p l cells H1 np pen1 s1 => ?_⟩
    walk_at "go"
    refine over_r (by decide) (by decide) ?_
    refine for_range (n := 6) (fun i σ H' => (∃ o2 o3 o4 o5 o6 o7 o8 o9 o10 : Option V, σ = [some (.ref a), some (.ref p), o2, o3, o4, o5, o6, o7, o8, o9, o10]) ∧ PenC (120 * i) p l cells H') ⟨⟨_, _, _, _, _, _, _, _, _, rfl⟩, pen1⟩ ?_ ?_
    rotate_left
    · rintro σ H2 ⟨⟨o2, o3, o4, o5, o6, o7, o8, o9, o10, rfl⟩, pen2⟩
      walk_at "go"
      exact q _
    rintro i σ H2 hi ⟨⟨o2, o3, o4, o5, o6, o7, o8, o9, o10, rfl⟩, pen2⟩
    walk_at "go"
    refine ⟨p, l, cells, 120 * i, rfl, pen2, by omega, fun t xs H3 hx sc nt ht pen3 k3 => ?_⟩
    have tp := (pen2.ne nt).1
    have tl := (pen2.ne nt).2
    walk_at "go"
    refine new (show 4 ≤ sizeLine by decide) fun a4 H4 n4 h4 s4 => ?_
    walk_at "go"
    refine ⟨p, l, cells, 120 * i + 100, 4, rfl, pen3.same s4, by omega, by decide, by decide, fun d5 H5 d0 d4 pen5 k5 => ?_⟩
    obtain ⟨m, em, m0, m2⟩ : ∃ m : Int, atI [V.int 0, V.int 1, V.int 1, V.int 2] d5 = some (.int m) ∧ 0 ≤ m ∧ m ≤ 2 := by
      have : d5 = 0 ∨ d5 = 1 ∨ d5 = 2 ∨ d5 = 3 := by omega
      rcases this with rfl | rfl | rfl | rfl
      · exact ⟨0, rfl, by decide, by decide⟩
      · exact ⟨1, rfl, by decide, by decide⟩
      · exact ⟨1, rfl, by decide, by decide⟩
      · exact ⟨2, rfl, by decide, by decide⟩
    refine w_ixL (SqL.of (k5 _ _ h4 (pen3.ne n4).1)) em ?_
    walk_at "go"
    refine over_r (by omega) (by omega) ?_
    have ht5 := k5 _ _ (s4 _ _ ht) tp
    refine for_range (n := m.toNat) (fun j σ H' => (∃ o2 o4 o5 o6 o7 o8 o9 o10 : Option V, σ = [some (.ref a), some (.ref p), o2, some (.ref t), o4, o5, o6, o7, o8, o9, o10]) ∧ ∃ ys : List V, ys.length = 11 ∧ (∀ x ∈ ys, Odd H' x) ∧ H' t = some (.lst ys) ∧ PenC (120 * i + 101 + 3 * j) p l cells H') ⟨⟨_, _, _, _, _, _, _, _, rfl⟩, xs, hx, fun x h => .inl (sc x h), ht5, pen5⟩ ?_ ?_
    · rintro j σ H6 hj ⟨⟨o2, o4, o5, o6, o7, o8, o9, o10, rfl⟩, ys, hy, od, ht6, pen6⟩
      walk_at "go"
      refine ⟨p, l, t, cells, 120 * i + 101 + 3 * j, ys, rfl, pen6, by omega, tp, tl, hy, od, ht6, fun zs H7 hz od7 ht7 pen7 k7 => ?_⟩
      exact ⟨⟨_, _, _, _, _, _, _, _, rfl⟩, zs, hz, od7, ht7, pen7⟩
    rintro σ H6 ⟨⟨o2, o4, o5, o6, o7, o8, o9, o10, rfl⟩, ys, hy, od, ht6, pen6⟩
    obtain ⟨n, lo, sz, r, wr, d, rs, lk, ky, cm, hd, rfl⟩ := eleven hy
    have pen6 : PenC (120 * i + 110) p l cells H6 := pen6.mono (by omega)
    have odn := od n (by simp)
    have odr := od r (by simp)
    have odw := od wr (by simp)
    have odd := od d (by simp)
    have ods : ∀ H', Same H6 H' → OdV K H' n ∧ OdV K H' lo ∧ OdV K H' sz ∧ OdV K H' r ∧ OdV K H' wr ∧ OdV K H' d ∧ OdV K H' rs ∧ OdV K H' lk ∧ OdV K H' ky ∧ OdV K H' cm ∧ OdV K H' hd := fun H' s =>
      ⟨(od n (by simp)).od.sm s, (od lo (by simp)).od.sm s, (od sz (by simp)).od.sm s, (od r (by simp)).od.sm s, (od wr (by simp)).od.sm s, (od d (by simp)).od.sm s, (od rs (by simp)).od.sm s, (od lk (by simp)).od.sm s, (od ky (by simp)).od.sm s, (od cm (by simp)).od.sm s, (od hd (by simp)).od.sm s⟩
    have fin : ∀ H', Same H6 H' → PenC (120 * (i + 1)) p l cells H' := fun H' s => (pen6.same s).mono (by omega)
    walk_at "go"
    refine ⟨t, n, lo, sz, r, wr, d, rs, lk, ky, cm, hd, rfl, ht6, ods H6 (Same.refl _), fun z ez H7 s7 => ?_, fun v ev b7 H7 h7 s7 => ?_, fun en H7 s7 => ?_⟩
    · walk_at "go"
      refine ⟨t, n, lo, sz, r, wr, d, rs, lk, ky, cm, hd, rfl, s7 _ _ ht6, ods H7 s7, fun z' ez' b8 H8 h8 s8 => ?_, fun v ev => ?_, fun en => ?_⟩
      rotate_left
      · rw [ez] at ev
        cases ev
      · rw [ez] at en
        cases en
      rw [ez] at ez'
      cases ez'
      walk_at "go"
      refine ⟨.str z, .ty "list", .type "str", .type "list", false, rfl, .ty _, .base (.str z), kit_ty (by decide +kernel), false, rfl, iteF ?_⟩
      walk_at "go"
      refine ⟨rfl, true, rfl, iteT ?_⟩
      have s68 : Same H6 H8 := s7.trans s8
      have ht8 := s68 _ _ ht6
      walk_at "go"
      refine new (show 5 ≤ sizeLine by decide) fun b9 H9 n9 h9 s9 => ?_
      have s69 : Same H6 H9 := s68.trans s9
      walk_at "go"
      have zS : Scal (.str z) := .inr (.inr (.inr ⟨z, rfl, due_word ez⟩))
      have fS : Scal (.str "field") := .inr (.inr (.inr ⟨_, rfl, by decide +kernel⟩))
      refine ⟨.ref b8, .ref b9, rfl, same_tup (s9 _ _ h8) h9 (by show 5 ≤ 60; decide) (.cons (same_sc fS) (.cons ((odn.same).st s69) (.cons (same_sc zS) (.cons (same_sc (.inr (.inl ⟨_, rfl⟩))) (.cons (same_sc (.inr (.inl ⟨_, rfl⟩))) .nil))))), fun H10 s10 => ?_⟩
      refine ⟨true, rfl, ?_⟩
      refine iteF ?_
      exact ⟨⟨_, _, _, _, _, _, _, _, _, rfl⟩, fin _ (s69.trans s10)⟩
    · walk_at "go"
      refine ⟨t, n, lo, sz, r, wr, d, rs, lk, ky, cm, hd, rfl, s7 _ _ ht6, ods H7 s7, fun z' ez' => ?_, fun v' ev' b8 H8 h8 s8 => ?_, fun en => ?_⟩
      · rw [ev] at ez'
        cases ez'
      rotate_left
      · rw [ev] at en
        cases en
      rw [ev] at ev'
      cases ev'
      walk_at "go"
      have h78 := s8 _ _ h7
      refine ⟨.ref b7, .ty "list", .type "list", .type "list", true, rfl, .ty _, .base (.lst h78), kit_ty (by decide +kernel), true, rfl, iteT ?_⟩
      have s68 : Same H6 H8 := s7.trans s8
      walk_at "go"
      refine new (show 4 ≤ sizeLine by decide) fun b9 H9 n9 h9 s9 => ?_
      have s69 : Same H6 H9 := s68.trans s9
      walk_at "go"
      have fS : Scal (.str "kind") := .inr (.inr (.inr ⟨_, rfl, by decide +kernel⟩))
      have vS : SameV H9 3 v v := by
        rcases due_val ev with rfl | rfl | rfl
        · exact (odr.same).st s69
        · exact (odw.same).st s69
        · exact (odd.same).st s69
      refine ⟨.ref b8, .ref b9, rfl, same_tup (s9 _ _ h8) h9 (by show 4 ≤ 60; decide) (.cons (same_sc fS) (.cons vS (.cons (same_sc (.inr (.inl ⟨_, rfl⟩))) (.cons (same_sc (.inr (.inl ⟨_, rfl⟩))) .nil)))), fun H10 s10 => ?_⟩
      refine ⟨true, rfl, ?_⟩
      refine iteF ?_
      exact ⟨⟨_, _, _, _, _, _, _, _, _, rfl⟩, fin _ (s69.trans s10)⟩
    · walk_at "go"
      refine ⟨t, n, lo, sz, r, wr, d, rs, lk, ky, cm, hd, rfl, s7 _ _ ht6, ods H7 s7, fun z' ez' => ?_, fun v' ev' => ?_, fun _ H8 s8 => ?_⟩
      · rw [en] at ez'
        cases ez'
      · rw [en] at ev'
        cases ev'
      walk_at "go"
      refine ⟨.non, .ty "list", .type "NoneType", .type "list", false, rfl, .ty _, .base .non, kit_ty (by decide +kernel), false, rfl, iteF ?_⟩
      walk_at "go"
      refine ⟨rfl, false, rfl, iteF ?_⟩
      walk_at "go"
      obtain ⟨z, vl, vs_, r', w', d', vv, rfl, rfl, rfl, rfl, rfl, rfl, rfl, R⟩ := Rt.of en
      have cl := TF.cl
      have clK := T.cl
      have f1 := TF.n1
      have f2 := T.nR
      have f3 := T.nW
      have f4 := T.nD
      have s68 : Same H6 H8 := s7.trans s8
      have ht8 := s68 _ _ ht6
      refine ⟨t, .str z, .int vl, .int vs_, r', w', d', .int vv, lk, ky, cm, hd, rfl, ht8, ods H8 s68, en, fun f H9 nf hf s9 => ?_⟩
      obtain ⟨dx, k, hF, hK⟩ := id hf
      obtain ⟨dk, stK, hk⟩ := id hK
      walk_at "go"
      refine new (show 3 ≤ sizeLine by decide) fun aK HK nK hK' sK => ?_
      have s6K : Same H6 HK := s68.trans (s9.trans sK)
      have htK := s6K _ _ ht6
      have hfK : FieldAt C CF HK f (.str z) (.int vl) (.int vs_) r' w' d' (.int vv) lk ky cm hd := ⟨dx, k, sK _ _ hF, dk, stK, sK _ _ hk⟩
      have scl : ∀ {x : V}, (x = .non ∨ ∃ y, x = .str y ∧ PyData.strOk y = true) → Scal x := fun h => h.elim .inl fun ⟨y, e, ok⟩ => .inr (.inr (.inr ⟨y, e, ok⟩))
      have zS : Scal (.str z) := .inr (.inr (.inr ⟨z, rfl, nm_ok R.nm⟩))
      have rS : Scal (.str r') := .inr (.inr (.inr ⟨r', rfl, wd_ok.1 _ R.rd⟩))
      have wS : Scal (.str w') := .inr (.inr (.inr ⟨w', rfl, wd_ok.2.1 _ R.wr⟩))
      have dS : Scal (.str d') := .inr (.inr (.inr ⟨d', rfl, wd_ok.2.2 _ R.dv⟩))
      have iS : ∀ j : Int, Scal (.int j) := fun j => .inr (.inr (.inl ⟨j, rfl⟩))
      have bS : ∀ b : Bool, Scal (.bl b) := fun b => .inr (.inl ⟨b, rfl⟩)
      have lkS := scl (bd_on R.blk)
      have kyS := scl (bd_on R.bky)
      have cmS := scl (bd_on R.bcm)
      have hdS := scl (bd_on R.bhd)
      have samF : ∀ {H' : Hp} {x y : Addr}, H' x = some (.lst [.str z, .int vl, .int vs_, .str r', .str w', .str d', .int vv, lk, ky, cm, hd]) → H' y = some (.lst [.str z, .int vl, .int vs_, .str r', .str w', .str d', .int vv, lk, ky, cm, hd]) → SameV H' 4 (.ref x) (.ref y) := fun {H' x y} hx hy =>
        same_lst hx hy (by show 11 ≤ 60; decide) (.cons (same_sc zS) (.cons (same_sc (iS _)) (.cons (same_sc (iS _)) (.cons (same_sc rS) (.cons (same_sc wS) (.cons (same_sc dS) (.cons (same_sc (iS _)) (.cons (same_sc lkS) (.cons (same_sc kyS) (.cons (same_sc cmS) (.cons (same_sc hdS) .nil)))))))))))
      walk_at "go"
      refine w_mid (fun σ' H' => Same HK H' ∧ σ' = [some (.ref a), some (.ref p), o2, some (.ref t), o4, some .non, some .non, some (.ref f), some (.ref aK), o9, o10]) ?_ ?_
      · walk_at "go"
        refine ⟨rfl, false, rfl, iteF ?_⟩
        walk_at "go"
        refine ⟨f, .str z, .int vl, .int vs_, r', w', d', .int vv, lk, ky, cm, hd, rfl, hfK, fun aA HA nA hA sA => ?_⟩
        walk_at "go"
        refine ⟨.ref aA, .ref t, rfl, samF hA (sA _ _ htK), fun HB sB => ⟨true, rfl, ?_⟩⟩
        refine iteF ?_
        have htB := sB _ _ (sA _ _ htK)
        walk_at "go"
        unfold tSl
        walk_at "go"
        unfold tPart
        walk_at "go"
        refine ⟨3, rfl, ?_⟩
        refine ⟨6, rfl, ?_⟩
        refine w_slL (ys := [.str r', .str w', .str d']) htB (by rfl) fun pL HL nL hL sL => ?_
        walk_at "go"
        have sKL : Same HK HL := sA.trans (sB.trans sL)
        refine ⟨.ref aK, .ref pL, rfl, same_lst (sKL _ _ hK') hL (by show 3 ≤ 60; decide) (.cons (same_sc rS) (.cons (same_sc wS) (.cons (same_sc dS) .nil))), fun HC sC => ⟨true, rfl, ?_⟩⟩
        refine iteF ?_
        exact ⟨sKL.trans sC, rfl⟩
      rintro σ' H' ⟨sKX, rfl⟩
      refine w_mid (fun σ2 H2 => Same H' H2 ∧ σ2 = [some (.ref a), some (.ref p), o2, some (.ref t), o4, some .non, some .non, some (.ref f), some (.ref aK), o9, o10]) ?_ ?_
      · have htX := sKX _ _ htK
        walk_at "go"
        unfold tSl
        walk_at "go"
        unfold tPart
        walk_at "go"
        refine ⟨3, rfl, ?_⟩
        unfold tNoPart
        refine w_slL (ys := [.str r', .str w', .str d', .int vv, lk, ky, cm, hd]) htX (by rfl) fun pL HL nL hL sL => ?_
        walk_at "go"
        refine new (show 8 ≤ sizeLine by decide) fun pN HN nN hN sN => ?_
        have sXN : Same H' HN := sL.trans sN
        obtain ⟨e1, e2, e3, e4⟩ := on_dp (K := K) (H := HN) (bd_on R.blk)
        obtain ⟨g1, g2, g3, g4⟩ := on_dp (K := K) (H := HN) (bd_on R.bky)
        obtain ⟨i1, i2, i3, i4⟩ := on_dp (K := K) (H := HN) (bd_on R.bcm)
        obtain ⟨j1, j2, j3, j4⟩ := on_dp (K := K) (H := HN) (bd_on R.bhd)
        refine ⟨.list [.str r', .str w', .str d', .int vv, onD lk, onD ky, onD cm, onD hd], .list [.str "keep", .str "store", .str "still", .int 0, .none, .none, .none, .none], .lst (SqL.of (sN _ _ hL)) (.cons (.str _) (.cons (.str _) (.cons (.str _) (.cons (.int _) (.cons e1 (.cons g1 (.cons i1 (.cons j1 .nil)))))))), .lst (SqL.of hN) (.cons (.str _) (.cons (.str _) (.cons (.str _) (.cons (.int _) (.cons .non (.cons .non (.cons .non (.cons .non .nil)))))))), sh_list ?_, by decide +kernel, ?_⟩
        · intro x hx
          have iD : ∀ j : Int, (PyData.int j).canLay0 = true ∧ (PyData.int j).depth = 0 := fun j => ⟨by simp [PyData.canLay0], by simp [PyData.depth]⟩
          simp only [List.mem_cons, List.not_mem_nil, or_false] at hx
          rcases hx with rfl | rfl | rfl | rfl | rfl | rfl | rfl | rfl
          · exact str_ld (wd_ok.1 _ R.rd)
          · exact str_ld (wd_ok.2.1 _ R.wr)
          · exact str_ld (wd_ok.2.2 _ R.dv)
          · exact iD _
          · exact ⟨e2, e3⟩
          · exact ⟨g2, g3⟩
          · exact ⟨i2, i3⟩
          · exact ⟨j2, j3⟩
        cases hb : PyData.eqv (.list [.str r', .str w', .str d', .int vv, onD lk, onD ky, onD cm, onD hd]) (.list [.str "keep", .str "store", .str "still", .int 0, .none, .none, .none, .none]) with
        | false =>
          refine ⟨false, rfl, iteF ?_⟩
          exact ⟨sXN, rfl⟩
        | true =>
          refine ⟨true, rfl, iteT ?_⟩
          have hb2 : (PyData.eqv (.str r') (.str "keep") && (PyData.eqv (.str w') (.str "store") && (PyData.eqv (.str d') (.str "still") && (PyData.eqv (.int vv) (.int 0) && (PyData.eqv (onD lk) .none && (PyData.eqv (onD ky) .none && (PyData.eqv (onD cm) .none && (PyData.eqv (onD hd) .none && true)))))))) = true := by
            simpa only [PyData.eqv, PyData.eqvAll] using hb
          rw [e4, g4, i4, j4] at hb2
          simp only [Bool.and_eq_true, decide_eq_true_iff, eqv_str] at hb2
          obtain ⟨q1, q2, q3, q4, rfl, rfl, rfl, rfl, _⟩ := hb2
          injection q1 with q1
          injection q2 with q2
          injection q3 with q3
          have q4 : (vv == 0) = true := q4
          have q4 : vv = 0 := by simpa using q4
          subst q1 q2 q3 q4
          have htN := sXN _ _ htX
          have s6N : Same H6 HN := s6K.trans (sKX.trans sXN)
          walk_at "go"
          refine make fun x dx2 H1 n1 h1 s1 => ?_
          refine ⟨x, dx2, .str z, .int vl, .int vs_, .str "keep", .str "store", .str "still", .int 0, .non, .non, .non, .non, rfl, h1, ods H1 (s6N.trans s1), ?_, ?_, ?_⟩
          · intro z e
            rw [en] at e
            cases e
          · intro z e
            rw [en] at e
            cases e
          intro _ k2 a2 b2 c2 H12 y1 y2 y3 hx hk2 kp
          refine ⟨rfl, ?_⟩
          cases y1
          cases y2
          cases y3
          have sN12 : Same HN H12 := fun b o e => kp b o (s1 b o e) (ne_of_none e n1)
          walk_at "go"
          refine ⟨x, .str z, .int vl, .int vs_, "keep", "store", "still", .int 0, .non, .non, .non, .non, rfl, ⟨dx2, k2, hx, hk2⟩, fun aA HA nA hA sA => ?_⟩
          walk_at "go"
          refine ⟨.ref aA, .ref t, rfl, samF hA (sA _ _ (sN12 _ _ htN)), fun HB sB => ⟨true, rfl, ?_⟩⟩
          refine iteF ?_
          exact ⟨sXN.trans (sN12.trans (sA.trans sB)), rfl⟩
      rintro σ2 HY ⟨sXY, rfl⟩
      have sKY : Same HK HY := sKX.trans sXY
      have htY := sKY _ _ htK
      have penY := pen6.same (s6K.trans sKY)
      walk_at "go"
      refine ⟨p, l, t, cells, 120 * i + 110, ⟨z, vl, vs_, r', w', d', vv, lk, ky, cm, hd⟩, _, rfl, rfl, penY, by omega, htY, R, fun t2 G HG okG neG hG penG kG => ?_⟩
      obtain ⟨gz, gl, gs, gr, gw, gd_, gv, glk, gky, gcm, ghd⟩ := G
      have okG : Rt gz gl gs gr gw gd_ gv glk gky gcm ghd := okG
      have insP : ∀ {b : Addr} {Cc dd : Addr} {fs : List (Str × V)}, HY b = some (.ins Cc dd fs) → HG b = some (.ins Cc dd fs) := fun {b Cc dd fs} e => kG _ _ e fun y => by
        obtain ⟨_, _, _, _, _, hp⟩ := penY
        rw [y, hp] at e
        cases e
      have htG := kG _ _ htY tp
      have hfG : FieldAt C CF HG f (.str z) (.int vl) (.int vs_) r' w' d' (.int vv) lk ky cm hd := ⟨dx, k, insP (sKY _ _ (sK _ _ hF)), dk, stK, insP (sKY _ _ (sK _ _ hk))⟩
      walk_at "go"
      refine ⟨t2, .str gz, .int gl, .int gs, gr, gw, gd_, .int gv, glk, gky, gcm, ghd, rfl, hG, okG.ods, okG.due, fun g H11 ng hg s11 => ?_⟩
      walk_at "go"
      have htH := s11 _ _ htG
      refine ⟨t, _, rfl, .inl (SqL.of htH), fun t3 n3 => ?_⟩
      have s12 : Same H11 (upd H11 t3 (.lst [.str z, .int vl, .int vs_, .str r', .str w', .str d', .int vv, lk, ky, cm, hd])) := fun b o e => by
        rw [upd_ne (ne_of_none e n3)]
        exact e
      have h3 : upd H11 t3 (.lst [.str z, .int vl, .int vs_, .str r', .str w', .str d', .int vv, lk, ky, cm, hd]) t3 = some (.lst [.str z, .int vl, .int vs_, .str r', .str w', .str d', .int vv, lk, ky, cm, hd]) := upd_same
      generalize upd H11 t3 (.lst [.str z, .int vl, .int vs_, .str r', .str w', .str d', .int vv, lk, ky, cm, hd]) = H12 at s12 h3 ⊢
      walk_at "go"
      refine ⟨t3, .str z, .int vl, .int vs_, r', w', d', .int vv, lk, ky, cm, hd, rfl, h3, R.ods, en, fun f2 H13 nf2 hf2 s13 => ?_⟩
      have sG13 : Same HG H13 := s11.trans (s12.trans s13)
      have mv : ∀ {H' : Hp} {b : Addr} {n lo sz : V} {r w d : Str} {rs lk ky cm hd : V} {H2 : Hp}, Same H' H2 → FieldAt C CF H' b n lo sz r w d rs lk ky cm hd → FieldAt C CF H2 b n lo sz r w d rs lk ky cm hd := fun s ⟨dx, k, h1, dk, st, h2⟩ => ⟨dx, k, s _ _ h1, dk, st, s _ _ h2⟩
      have hf13 := mv sG13 hfG
      have hg13 := mv (s12.trans s13) hg
      have tyF : ∀ {b dd : Addr} {fs : List (Str × V)}, H13 b = some (.ins CF dd fs) → TyX K H13 (.ref b) (.ref CF) := fun h => .base (.ins h cl isCF T.isG T.isT isMF)
      obtain ⟨dfx, kx, hfx, hkx⟩ := id hf13
      obtain ⟨dgx, kgx, hgx, hkgx⟩ := id hg13
      obtain ⟨dhx, khx, hhx, hkhx⟩ := id hf2
      obtain ⟨o1, o2', o3', o4'⟩ := R.ons
      obtain ⟨p1, p2, p3, p4⟩ := okG.ons
      have eT : eqFld (.str z) (.int vl) (.int vs_) r' w' d' (.int vv) lk ky cm hd (.str z) (.int vl) (.int vs_) r' w' d' (.int vv) lk ky cm hd = true := F11.refl ⟨z, vl, vs_, r', w', d', vv, lk, ky, cm, hd⟩
      have eF : eqFld (.str z) (.int vl) (.int vs_) r' w' d' (.int vv) lk ky cm hd (.str gz) (.int gl) (.int gs) gr gw gd_ (.int gv) glk gky gcm ghd = false := F11.ne (F := ⟨z, vl, vs_, r', w', d', vv, lk, ky, cm, hd⟩) (G := ⟨gz, gl, gs, gr, gw, gd_, gv, glk, gky, gcm, ghd⟩) neG
      have ht13 := sG13 _ _ htG
      refine ⟨f, dfx, _, .ref CF, rfl, hfx, tyF hhx, nfCF, .inl ⟨f, f2, z, z, vl, vs_, vv, vl, vs_, vv, r', w', d', r', w', d', lk, ky, cm, hd, lk, ky, cm, hd, rfl, hf13, hf2, ⟨o1, o2', o3', o4', o1, o2', o3', o4'⟩, _, rfl, ?_⟩⟩
      walk_at "go"
      refine ⟨f, dfx, _, .ref CF, rfl, hfx, tyF hgx, nfCF, .inl ⟨f, g, z, gz, vl, vs_, vv, gl, gs, gv, r', w', d', gr, gw, gd_, lk, ky, cm, hd, glk, gky, gcm, ghd, rfl, hf13, hg13, ⟨o1, o2', o3', o4', p1, p2, p3, p4⟩, _, rfl, ?_⟩⟩
      walk_at "go"
      refine ⟨f, dfx, _, .type "str", rfl, hfx, .base (.str z), nfS, .inr ⟨f, .str z, .type "str", rfl, .base (.str z), kSF, _, rfl, ?_⟩⟩
      walk_at "go"
      refine ⟨f, dfx, _, .ref CF, rfl, hfx, tyF hgx, nfCF, .inl ⟨f, g, z, gz, vl, vs_, vv, gl, gs, gv, r', w', d', gr, gw, gd_, lk, ky, cm, hd, glk, gky, gcm, ghd, rfl, hf13, hg13, ⟨o1, o2', o3', o4', p1, p2, p3, p4⟩, _, rfl, ?_⟩⟩
      rw [eT, eF]
      walk_at "go"
      refine new (show 4 ≤ sizeLine by decide) fun aQ HQ nQ hQ sQ => ?_
      walk_at "go"
      refine new (show 4 ≤ sizeLine by decide) fun aR HR nR_ hR sR => ?_
      walk_at "go"
      refine ⟨.ref aQ, .ref aR, rfl, same_lst (sR _ _ hQ) hR (by show 4 ≤ 60; decide) (.cons (same_sc (bS _)) (.cons (same_sc (bS _)) (.cons (same_sc (bS _)) (.cons (same_sc (bS _)) .nil)))), fun HS sS => ⟨true, rfl, ?_⟩⟩
      refine iteF ?_
      exact ⟨⟨_, _, _, _, _, _, _, _, _, rfl⟩, (penG.same (sG13.trans (sQ.trans (sR.trans sS)))).mono (by omega)⟩
end
end Law

set_option Elab.async false
set_option linter.all false
set_option maxRecDepth 100000
set_option maxHeartbeats 4000000
namespace Law
open PySem PySem.Spec PySem.Calls PyProof.Rows L2 KG
local macro_rules | `(tactic| walk_at "1") => `(tactic| first
  | (with_reducible refine w_var rfl ?_) | (with_reducible refine w_c ?_) | (with_reducible refine w_seq ?_) | (with_reducible refine w_asg ?_) | (with_reducible refine w_gname ?_) | (with_reducible refine w_op ?_) | (with_reducible refine w_un ?_)
  | (with_reducible refine w_add ?_) | (with_reducible refine w_sub ?_) | ((with_reducible refine' w_mod ?mo ?_); (case mo => first | assumption | decide | omega)) | (with_reducible refine w_and ?_) | (with_reducible refine w_or ?_) | (with_reducible refine w_xor ?_)
  | (with_reducible refine w_gt ?_) | (with_reducible refine w_lt ?_) | (with_reducible refine w_ge ?_) | (with_reducible refine w_le ?_) | ((with_reducible refine' w_eq ?sc ?_); (case sc => rfl)) | ((with_reducible refine' w_ne ?sc ?_); (case sc => rfl))
  | (with_reducible refine w_ret ?_) | (with_reducible refine w_next ?_) | (with_reducible refine w_ifs ?_) | (with_reducible refine w_ifx ?_) | (with_reducible refine w_test ?_) | (with_reducible refine w_tB ?_) | (with_reducible refine w_bl ?_)
  | ((with_reducible refine' w_ixL ?ixh ?ixa ?_); (case ixh => first | exact SqL.of (by assumption)); (case ixa => first | rfl | skip)) | ((with_reducible refine' w_ixT ?ixh ?ixa ?_); (case ixh => first | exact SqT.of (by assumption)); (case ixa => first | rfl | skip))
  | ((with_reducible refine' w_fld ?_)) | ((with_reducible refine' fld ?fh ?fc ?fn ?fl ?_); (case fh => assumption); (case fc => assumption); (case fn => assumption); (case fl => rfl)) | (with_reducible refine w_sfld ?_)
  | (with_reducible refine Or.inl ⟨_, rfl, ?_⟩) | (with_reducible refine w_gsub ?_) | (with_reducible refine w_andV ?_) | (with_reducible refine w_orV ?_)
  | (with_reducible refine w_nil ?_) | (with_reducible refine w_cons ?_) | (with_reducible refine w_tup ?_) | (with_reducible refine w_lst ?_) | (with_reducible refine w_and2 ?_) | (with_reducible refine w_or2 ?_) | (with_reducible refine w_not ?_) | (with_reducible refine w_cb ?_) | (with_reducible refine w_call ?_) | (with_reducible refine w_par ?_) | (with_reducible refine w_pnil ?_) | (with_reducible refine w_pcons ?_) | (with_reducible refine w_dput ?_) | (with_reducible refine w_dget ?_) | (with_reducible refine w_for ?_) | (with_reducible refine w_itup ?_) | (with_reducible refine w_ilist ?_) | (with_reducible refine w_irng ?_) | (with_reducible refine w_meth ?_) | (with_reducible refine w_make ?_) | (with_reducible refine w_makeK ?_) | (with_reducible refine w_methK ?_) | ((with_reducible refine' mth ?mh ?ml ?_); (case mh => assumption); (case ml => rfl)) | (with_reducible refine w_drop ?_))
local macro_rules | `(tactic| walk_at "go") => `(tactic| ((repeat (walk_at "1")); try dsimp only))
local macro_rules | `(tactic| walk_at "1") => `(tactic| first
  | (with_reducible refine w_notV ?_) | (with_reducible refine w_callK ?_) | (with_reducible refine w_lc ?_) | (with_reducible refine w_chain ?_) | (with_reducible refine w_neg ?_) | ((with_reducible refine' w_shr ?mo ?_); (case mo => first | assumption | omega)))
theorem ktup {K : PySem.W.Frag} {a : Addr} {dd : Option Addr} {its : Array Value} {n : Nat} {sl : Array (Option Value)} {xs : List V} (h : K.lookup a = some ⟨.type "tuple", dd, .seq its n, sl⟩) (z : Nat.ble its.size 100 = true) (r : Vals xs its.toList) : KTup K a xs :=
  ⟨_, its, n, h, rfl, rfl, Nat.le_trans (Nat.le_of_ble_eq_true z) (by decide), r⟩
theorem rec_at {K : PySem.W.Frag} {p g : Addr} {T : String} {d : Option Addr} {vs : Array Value} {ss : Array (Option Value)} {rs : List Value} (h : K.lookup p = some ⟨.type T, d, .fields vs, ss⟩) (v : vs.toList = .ref g :: rs) : PySem.W.recIn K p T = some (.ref g :: rs) := by
  unfold PySem.W.recIn
  rw [h]
  show (if (T == T) = true then some vs.toList else none) = _
  rw [beq_self_eq_true, if_pos rfl, v]
theorem vals_rev {x : List V} {y : List Value} (h : Vals x y) : Vals x.reverse y.reverse := by
  induction h with
  | nil => exact .nil
  | cons r _ ih =>
    rw [List.reverse_cons, List.reverse_cons]
    exact ih.append (.cons r .nil)

theorem kit_own {K : PySem.W.Frag} {t : Value} {C : Addr} {b : Bool} (hd : PySem.W.hasDictIn K C = true) (ty : PySem.W.typeIn K (.ref C) = some (.type "type")) (ne : (t == Value.ref C) = false) (s : PySem.W.subIn K t (.ref C) = some b) : PySem.W.kitOne K t (.ref C) = some b := by
  obtain ⟨cd, hc, _⟩ := PySem.W.any_some hd
  have e2 : ((PySem.W.clsIn K C).isSome && PySem.W.typeIn K (.ref C) == some (.type "type")) = true := by rw [hc, ty] <;> rfl
  unfold PySem.W.kitOne
  rw [ne, if_neg Bool.false_ne_true]
  show (if ((PySem.W.clsIn K C).isSome && PySem.W.typeIn K (.ref C) == some (.type "type")) = true then PySem.W.subIn K t (.ref C) else none) = some b
  rw [if_pos e2]
  exact s
theorem kit_same {K : PySem.W.Frag} {t : Value} : PySem.W.kitOne K t t = some true := if_pos (beq_self_eq_true t)
theorem bi_of {mg : Str → Option Value} (B : B1 mg) : Bi mg := ⟨B.g_int, B.g_len, B.g_abs, B.g_list, B.g_range, B.g_str, B.g_tuple, B.g_isinstance⟩
theorem kb_one {K : PySem.W.Frag} {kV doc pm : Value} {an : Option Addr} {cdv ct : Value} : KBn K (PySem.W.fnOf "__init__" "Field.__init__" (defArgs s_Field___init__) (defBody s_Field___init__) (defScope s_Field___init__) .none kV doc pm an cdv ct) ["self", "name", "low", "size", "reading", "writing", "device", "reset", "lock", "key", "commit", "held"] 1 ["held", "commit", "key", "lock", "reset", "device", "writing", "reading", "size", "low", "name"] (fun us ws => us ++ ws.reverse) (fun us ws => us ++ ws.reverse) :=
  ⟨fun s us ws _ h1 h2 => match us, ws, h1, h2 with | [_], [_, _, _, _, _, _, _, _, _, _, _], _, _ => .of_eq (by kernel_rfl), fun a b => a.append (vals_rev b)⟩
theorem kb_four {K : PySem.W.Frag} {kV doc pm : Value} {an : Option Addr} {cdv ct : Value} : KBn K (PySem.W.fnOf "__init__" "Field.__init__" (defArgs s_Field___init__) (defBody s_Field___init__) (defScope s_Field___init__) .none kV doc pm an cdv ct) ["self", "name", "low", "size", "reading", "writing", "device", "reset", "lock", "key", "commit", "held"] 4 ["reading", "writing", "device", "reset", "lock", "key", "commit", "held"] (fun us ws => us ++ ws) (fun us ws => us ++ ws) :=
  ⟨fun s us ws _ h1 h2 => match us, ws, h1, h2 with | [_, _, _, _], [_, _, _, _, _, _, _, _], _, _ => .of_eq (by kernel_rfl), fun a b => a.append b⟩
theorem bind_field {K : PySem.W.Frag} {f : Addr} {fd : FuncData} (F : FunD K "__init__" "Field.__init__" (defArgs s_Field___init__) (defBody s_Field___init__) (defScope s_Field___init__) [] [("reading", .str "keep"), ("writing", .str "store"), ("device", .str "still"), ("reset", .int 0), ("lock", .non), ("key", .non), ("commit", .non), ("held", .non)] f fd) : ∃ ds, Vals [.str "keep", .str "store", .str "still", .int 0, .non, .non, .non, .non] ds ∧ Binds K fd ["self", "name", "low", "size", "reading", "writing", "device", "reset", "lock", "key", "commit", "held"] ds := by
  refine F.binds0 4 (by simp) rfl ?_
  intro D doc pm an cdv ct us ks h1 h2
  match us, ks, h1, h2 with
  | [_, _, _, _], [_, _, _, _, _, _, _, _], _, _ => exact ⟨_, _, _, _, _, _, rfl, rfl, _, _, _, _, _, _, rfl, rfl, _, _, _, _, _, _, rfl, rfl, _, _, _, _, _, _, rfl, rfl, _, _, _, _, _, _, rfl, rfl, _, _, _, _, _, _, rfl, rfl, _, _, _, _, _, _, rfl, rfl, _, _, _, _, _, _, rfl, rfl, rfl⟩
theorem binds_e1 {K : PySem.W.Frag} {kV doc pm ct : Value} {an : Option Addr} {cda cc : Addr} : Binds K (PySem.W.ksFn "__init__" "InvalidKind.__init__" (defArgs s_InvalidKind___init__) (defBody s_InvalidKind___init__) (defScope s_InvalidKind___init__) .none kV doc pm an (.ref cda) ct cc) ["self", "value"] [] := fun s us _ hl => by
  match us, hl with
  | [_, _], _ => exact .of_eq rfl
theorem binds_e2 {K : PySem.W.Frag} {kV doc pm ct : Value} {an : Option Addr} {cda cc : Addr} : Binds K (PySem.W.ksFn "__init__" "InvalidField.__init__" (defArgs s_InvalidField___init__) (defBody s_InvalidField___init__) (defScope s_InvalidField___init__) .none kV doc pm an (.ref cda) ct cc) ["self", "name", "reason"] [] := fun s us _ hl => by
  match us, hl with
  | [_, _, _], _ => exact .of_eq rfl
theorem all {l : PySem.W.OpenLaw} {w : World} {K : PySem.W.Frag} {h : Heap} {mg : Str → Option Value} {fa : Addr} (X : K.In h) (G : h.Ns mainGlobals mg) (hfa : mg "law" = some (.ref fa))
    {C : Addr} {CF : Addr} {BE : Addr} {cF : Addr} {cK : Addr} {cM : Addr} {aR bW aD : Addr} {mc : Value} {tC tN tL tH tM tW : Tok} {u2 : Tok} {u3 : Tok} {ddt1 : Option Addr} {nnt1 : Nat} {sst1 : Array (Option Value)} {u5 : Tok} {u6 : Tok} {u7 : Tok} {u8 : Tok} {u9 : Tok} {u10 : Tok} {u11 : Tok} {ddt4 : Option Addr} {nnt4 : Nat} {sst4 : Array (Option Value)} {u13 : Tok} {u14 : Tok} {u15 : Tok} {u16 : Tok} {ddt12 : Option Addr} {nnt12 : Nat} {sst12 : Array (Option Value)} {m_Kind_init : Addr} {odv17 anv17 : Option Addr} {slv17 : Array (Option Value)} {ocv17 kVv17 dcv17 pmv17 cdv17 ctv17 : Value} {m_Kind_eq : Addr} {odv18 anv18 : Option Addr} {slv18 : Array (Option Value)} {ocv18 kVv18 dcv18 pmv18 cdv18 ctv18 : Value} {m_Field_may_be_held : Addr} {odv19 anv19 : Option Addr} {slv19 : Array (Option Value)} {ocv19 kVv19 dcv19 pmv19 cdv19 ctv19 : Value} {m_Field_eq : Addr} {odv20 anv20 : Option Addr} {slv20 : Array (Option Value)} {ocv20 kVv20 dcv20 pmv20 cdv20 ctv20 : Value} {fFI kdFI : Addr} {ocFI dcFI pmFI cdFI ctFI : Value} {odFI anFI : Option Addr} {slFI : Array (Option Value)} {tk_reading : Tok} {tk_writing : Tok} {tk_device : Tok} {tk_reset : Tok} {nmEcF qEcF : Str} {NEcF : Addr} {bsEcF bmEcF : List Value} {snEcF : List Str} {subEcF : List Value} {abEcF : Bool} {colEcF : Option Bool} {ddEcF : Option Addr} {j0_cF j1_cF j2_cF j3_cF j5_cF : Option Value} {fIcF cdacF cccF : Addr} {ocEcF kVEcF dcEcF pmEcF ctEcF : Value} {anEcF odEcF : Option Addr} {slEcF : Array (Option Value)} {cclcF ccvcF : Value} {cddcF cldcF : Option Addr} {vsEcF : Array Value} {ccscF cslcF : Array (Option Value)} {fileEcF : Str} {tfEcF : Tok} {cdEcF : ClassData} {nmEcK qEcK : Str} {NEcK : Addr} {bsEcK bmEcK : List Value} {snEcK : List Str} {subEcK : List Value} {abEcK : Bool} {colEcK : Option Bool} {ddEcK : Option Addr} {j0_cK j1_cK j2_cK j3_cK j5_cK : Option Value} {fIcK cdacK cccK : Addr} {ocEcK kVEcK dcEcK pmEcK ctEcK : Value} {anEcK odEcK : Option Addr} {slEcK : Array (Option Value)} {cclcK ccvcK : Value} {cddcK cldcK : Option Addr} {vsEcK : Array Value} {ccscK cslcK : Array (Option Value)} {fileEcK : Str} {tfEcK : Tok} {cdEcK : ClassData} {f_is_int : Addr} {odv21 anv21 : Option Addr} {slv21 : Array (Option Value)} {ocv21 kVv21 dcv21 pmv21 cdv21 ctv21 : Value} {f_full_word : Addr} {odv22 anv22 : Option Addr} {slv22 : Array (Option Value)} {ocv22 kVv22 dcv22 pmv22 cdv22 ctv22 : Value} {f_is_word : Addr} {odv23 anv23 : Option Addr} {slv23 : Array (Option Value)} {ocv23 kVv23 dcv23 pmv23 cdv23 ctv23 : Value} {f_has_only : Addr} {odv24 anv24 : Option Addr} {slv24 : Array (Option Value)} {ocv24 kVv24 dcv24 pmv24 cdv24 ctv24 : Value} {f_is_name : Addr} {odv25 anv25 : Option Addr} {slv25 : Array (Option Value)} {ocv25 kVv25 dcv25 pmv25 cdv25 ctv25 : Value} {f_is_place : Addr} {odv26 anv26 : Option Addr} {slv26 : Array (Option Value)} {ocv26 kVv26 dcv26 pmv26 cdv26 ctv26 : Value} {f_is_reset : Addr} {odv27 anv27 : Option Addr} {slv27 : Array (Option Value)} {ocv27 kVv27 dcv27 pmv27 cdv27 ctv27 : Value} {f__law_pen : Addr} {odv28 anv28 : Option Addr} {slv28 : Array (Option Value)} {ocv28 kVv28 dcv28 pmv28 cdv28 ctv28 : Value} {f__law_draw : Addr} {odv29 anv29 : Option Addr} {slv29 : Array (Option Value)} {ocv29 kVv29 dcv29 pmv29 cdv29 ctv29 : Value} {f__law_same : Addr} {odv30 anv30 : Option Addr} {slv30 : Array (Option Value)} {ocv30 kVv30 dcv30 pmv30 cdv30 ctv30 : Value} {f__law_name : Addr} {odv31 anv31 : Option Addr} {slv31 : Array (Option Value)} {ocv31 kVv31 dcv31 pmv31 cdv31 ctv31 : Value} {f__law_is_name : Addr} {odv32 anv32 : Option Addr} {slv32 : Array (Option Value)} {ocv32 kVv32 dcv32 pmv32 cdv32 ctv32 : Value} {f__law_is_from : Addr} {odv33 anv33 : Option Addr} {slv33 : Array (Option Value)} {ocv33 kVv33 dcv33 pmv33 cdv33 ctv33 : Value} {f__law_right : Addr} {odv34 anv34 : Option Addr} {slv34 : Array (Option Value)} {ocv34 kVv34 dcv34 pmv34 cdv34 ctv34 : Value} {f__law_odd : Addr} {odv35 anv35 : Option Addr} {slv35 : Array (Option Value)} {ocv35 kVv35 dcv35 pmv35 cdv35 ctv35 : Value} {f__law_spoil : Addr} {odv36 anv36 : Option Addr} {slv36 : Array (Option Value)} {ocv36 kVv36 dcv36 pmv36 cdv36 ctv36 : Value} {f__law_due : Addr} {odv37 anv37 : Option Addr} {slv37 : Array (Option Value)} {ocv37 kVv37 dcv37 pmv37 cdv37 ctv37 : Value} {f__law_make : Addr} {odv38 anv38 : Option Addr} {slv38 : Array (Option Value)} {ocv38 kVv38 dcv38 pmv38 cdv38 ctv38 : Value} {f__law_refused : Addr} {odv39 anv39 : Option Addr} {slv39 : Array (Option Value)} {ocv39 kVv39 dcv39 pmv39 cdv39 ctv39 : Value} {f__law_attributes : Addr} {odv40 anv40 : Option Addr} {slv40 : Array (Option Value)} {ocv40 kVv40 dcv40 pmv40 cdv40 ctv40 : Value} {f__law_other_kind : Addr} {odv41 anv41 : Option Addr} {slv41 : Array (Option Value)} {ocv41 kVv41 dcv41 pmv41 cdv41 ctv41 : Value} {f__law_other : Addr} {odv42 anv42 : Option Addr} {slv42 : Array (Option Value)} {ocv42 kVv42 dcv42 pmv42 cdv42 ctv42 : Value} {f_law : Addr} {odv43 anv43 : Option Addr} {slv43 : Array (Option Value)} {ocv43 kVv43 dcv43 pmv43 cdv43 ctv43 : Value}
    (n_Kind : PySem.W.nsIn K mainGlobals "Kind" = some (some (.ref C)))
    (n_Field : PySem.W.nsIn K mainGlobals "Field" = some (some (.ref CF)))
    (n_BitError : PySem.W.nsIn K mainGlobals "BitError" = some (some (.ref BE)))
    (n_InvalidField : PySem.W.nsIn K mainGlobals "InvalidField" = some (some (.ref cF)))
    (n_InvalidKind : PySem.W.nsIn K mainGlobals "InvalidKind" = some (some (.ref cK)))
    (n_InvalidMap : PySem.W.nsIn K mainGlobals "InvalidMap" = some (some (.ref cM)))
    (n_CAPITALS : PySem.W.nsIn K mainGlobals "CAPITALS" = some (some (.str capL tC)))
    (n_NAME_LETTERS : PySem.W.nsIn K mainGlobals "NAME_LETTERS" = some (some (.str nameL tN)))
    (n_LONGEST_NAME : PySem.W.nsIn K mainGlobals "LONGEST_NAME" = some (some (.int 8 tL)))
    (n_HIGHEST_PLACE : PySem.W.nsIn K mainGlobals "HIGHEST_PLACE" = some (some (.int 31 tH)))
    (n_MOST_FIELD_BITS : PySem.W.nsIn K mainGlobals "MOST_FIELD_BITS" = some (some (.int 16 tM)))
    (n_WIDEST : PySem.W.nsIn K mainGlobals "WIDEST" = some (some (.int 32 tW)))
    (no_int : PySem.W.nsIn K mainGlobals "int" = some none)
    (no_len : PySem.W.nsIn K mainGlobals "len" = some none)
    (no_abs : PySem.W.nsIn K mainGlobals "abs" = some none)
    (no_list : PySem.W.nsIn K mainGlobals "list" = some none)
    (no_repr : PySem.W.nsIn K mainGlobals "repr" = some none)
    (no_range : PySem.W.nsIn K mainGlobals "range" = some none)
    (no_str : PySem.W.nsIn K mainGlobals "str" = some none)
    (no_isinstance : PySem.W.nsIn K mainGlobals "isinstance" = some none)
    (no_tuple : PySem.W.nsIn K mainGlobals "tuple" = some none)
    (no_bool : PySem.W.nsIn K mainGlobals "bool" = some none)
    (no_all : PySem.W.nsIn K mainGlobals "all" = some none)
    (no_dict : PySem.W.nsIn K mainGlobals "dict" = some none)
    (no_zip : PySem.W.nsIn K mainGlobals "zip" = some none)
    (no_super : PySem.W.nsIn K mainGlobals "super" = some none)
    (pg : PySem.W.plainGet K C Str.empty = true)
    (hd : PySem.W.hasDictIn K C = true)
    (po : PySem.W.plainOver K C = true)
    (fd_C_setattr : PySem.W.findIn K (.ref C) "__setattr__" = some (some (.builtin "object.__setattr__")))
    (fd_C_reading : PySem.W.findIn K (.ref C) "reading" = some none)
    (fd_C_writing : PySem.W.findIn K (.ref C) "writing" = some none)
    (fd_C_device : PySem.W.findIn K (.ref C) "device" = some none)
    (fd_C_states : PySem.W.findIn K (.ref C) "states" = some none)
    (fd_C_class : PySem.W.findIn K (.ref C) "__class__" = some (some (.builtin "object.__class__")))
    (fd_C_ne : PySem.W.findIn K (.ref C) "__ne__" = some (some (.builtin "object.__ne__")))
    (isG : PySem.W.specialIn K (.builtin "object.__class__") "__get__" = some (some (.builtin "getset_descriptor.__get__")))
    (isT : PySem.W.takesIn K (.builtin "object.__class__") = some true)
    (isM : PySem.W.mroIn K C (.type "object") = some true)
    (mk : PySem.W.makesIn K C = true)
    (kc : PySem.W.keepIn K (.ref C) = true)
    (mcT : PySem.W.typeIn K (.ref C) = some mc)
    (rdI : PySem.W.readsIn K C mc = true)
    (gaI : PySem.W.specialIn K (.ref C) "__getattribute__" = some (some (.builtin "type.__getattribute__")))
    (v_READINGS : PySem.W.findCls K (.ref C) mc "READINGS" = some (.val (.ref aR)))
    (q_aR : K.lookup aR = some ⟨.type "tuple", ddt1, .seq #[.str "keep" u2, .str "take" u3] nnt1, sst1⟩)
    (v_WRITINGS : PySem.W.findCls K (.ref C) mc "WRITINGS" = some (.val (.ref bW)))
    (q_bW : K.lookup bW = some ⟨.type "tuple", ddt4, .seq #[.str "store" u5, .str "clear1" u6, .str "clear0" u7, .str "set1" u8, .str "flip1" u9, .str "once" u10, .str "none" u11] nnt4, sst4⟩)
    (v_DEVICES : PySem.W.findCls K (.ref C) mc "DEVICES" = some (.val (.ref aD)))
    (q_aD : K.lookup aD = some ⟨.type "tuple", ddt12, .seq #[.str "still" u13, .str "raise" u14, .str "end" u15, .str "drift" u16] nnt12, sst12⟩)
    (a_Kind___init__ : PySem.W.findIn K (.ref C) "__init__" = some (some (.ref m_Kind_init)))
    (i_Kind___init__ : PySem.W.isFn K (.ref m_Kind_init) = true)
    (l_Kind___init__ : K.lookup m_Kind_init = some ⟨ocv17, odv17, .func (PySem.W.fnOf "__init__" "Kind.__init__" (defArgs s_Kind___init__) (defBody s_Kind___init__) (defScope s_Kind___init__) .none kVv17 dcv17 pmv17 anv17 cdv17 ctv17), slv17⟩)
    (c_Kind___init__ : PySem.W.codeIn K cdv17 "Kind.__init__" = true)
    (k_Kind___init__ : PySem.W.keepIn K (.ref m_Kind_init) = true)
    (a_Kind___eq__ : PySem.W.findIn K (.ref C) "__eq__" = some (some (.ref m_Kind_eq)))
    (i_Kind___eq__ : PySem.W.isFn K (.ref m_Kind_eq) = true)
    (l_Kind___eq__ : K.lookup m_Kind_eq = some ⟨ocv18, odv18, .func (PySem.W.fnOf "__eq__" "Kind.__eq__" (defArgs s_Kind___eq__) (defBody s_Kind___eq__) (defScope s_Kind___eq__) .none kVv18 dcv18 pmv18 anv18 cdv18 ctv18), slv18⟩)
    (c_Kind___eq__ : PySem.W.codeIn K cdv18 "Kind.__eq__" = true)
    (k_Kind___eq__ : PySem.W.keepIn K (.ref m_Kind_eq) = true)
    (neF : (CF == C) = false)
    (pgF : PySem.W.plainGet K CF Str.empty = true)
    (hdF : PySem.W.hasDictIn K CF = true)
    (poF : PySem.W.plainOver K CF = true)
    (fd_CF_setattr : PySem.W.findIn K (.ref CF) "__setattr__" = some (some (.builtin "object.__setattr__")))
    (fd_CF_kind : PySem.W.findIn K (.ref CF) "kind" = some none)
    (fd_CF_name : PySem.W.findIn K (.ref CF) "name" = some none)
    (fd_CF_low : PySem.W.findIn K (.ref CF) "low" = some none)
    (fd_CF_size : PySem.W.findIn K (.ref CF) "size" = some none)
    (fd_CF_reading : PySem.W.findIn K (.ref CF) "reading" = some none)
    (fd_CF_writing : PySem.W.findIn K (.ref CF) "writing" = some none)
    (fd_CF_device : PySem.W.findIn K (.ref CF) "device" = some none)
    (fd_CF_reset : PySem.W.findIn K (.ref CF) "reset" = some none)
    (fd_CF_lock : PySem.W.findIn K (.ref CF) "lock" = some none)
    (fd_CF_key : PySem.W.findIn K (.ref CF) "key" = some none)
    (fd_CF_commit : PySem.W.findIn K (.ref CF) "commit" = some none)
    (fd_CF_held : PySem.W.findIn K (.ref CF) "held" = some none)
    (fd_CF_class : PySem.W.findIn K (.ref CF) "__class__" = some (some (.builtin "object.__class__")))
    (fd_CF_ne : PySem.W.findIn K (.ref CF) "__ne__" = some (some (.builtin "object.__ne__")))
    (isMF : PySem.W.mroIn K CF (.type "object") = some true)
    (mkF : PySem.W.makesIn K CF = true)
    (kcF : PySem.W.keepIn K (.ref CF) = true)
    (tyF : PySem.W.typeIn K (.ref CF) = some (.type "type"))
    (snS : PySem.W.subIn K (.type "str") (.ref CF) = some false)
    (nfS : PySem.W.notFirst K CF (.type "str") = true)
    (a_Field_may_be_held : PySem.W.findIn K (.ref CF) "may_be_held" = some (some (.ref m_Field_may_be_held)))
    (i_Field_may_be_held : PySem.W.isFn K (.ref m_Field_may_be_held) = true)
    (l_Field_may_be_held : K.lookup m_Field_may_be_held = some ⟨ocv19, odv19, .func (PySem.W.fnOf "may_be_held" "Field.may_be_held" (defArgs s_Field_may_be_held) (defBody s_Field_may_be_held) (defScope s_Field_may_be_held) .none kVv19 dcv19 pmv19 anv19 cdv19 ctv19), slv19⟩)
    (c_Field_may_be_held : PySem.W.codeIn K cdv19 "Field.may_be_held" = true)
    (k_Field_may_be_held : PySem.W.keepIn K (.ref m_Field_may_be_held) = true)
    (a_Field___eq__ : PySem.W.findIn K (.ref CF) "__eq__" = some (some (.ref m_Field_eq)))
    (i_Field___eq__ : PySem.W.isFn K (.ref m_Field_eq) = true)
    (l_Field___eq__ : K.lookup m_Field_eq = some ⟨ocv20, odv20, .func (PySem.W.fnOf "__eq__" "Field.__eq__" (defArgs s_Field___eq__) (defBody s_Field___eq__) (defScope s_Field___eq__) .none kVv20 dcv20 pmv20 anv20 cdv20 ctv20), slv20⟩)
    (c_Field___eq__ : PySem.W.codeIn K cdv20 "Field.__eq__" = true)
    (k_Field___eq__ : PySem.W.keepIn K (.ref m_Field_eq) = true)
    (a_FI : PySem.W.findIn K (.ref CF) "__init__" = some (some (.ref fFI)))
    (i_FI : PySem.W.isFn K (.ref fFI) = true)
    (l_FI : K.lookup fFI = some ⟨ocFI, odFI, .func (PySem.W.fnOf "__init__" "Field.__init__" (defArgs s_Field___init__) (defBody s_Field___init__) (defScope s_Field___init__) .none (.ref kdFI) dcFI pmFI anFI cdFI ctFI), slFI⟩)
    (c_FI : PySem.W.codeIn K cdFI "Field.__init__" = true)
    (k_FI : PySem.W.keepIn K (.ref fFI) = true)
    (nk_reading : PySem.W.nsIn K kdFI "reading" = some (some (.str "keep" tk_reading)))
    (nk_writing : PySem.W.nsIn K kdFI "writing" = some (some (.str "store" tk_writing)))
    (nk_device : PySem.W.nsIn K kdFI "device" = some (some (.str "still" tk_device)))
    (nk_reset : PySem.W.nsIn K kdFI "reset" = some (some (.int 0 tk_reset)))
    (nk_lock : PySem.W.nsIn K kdFI "lock" = some (some .none))
    (nk_key : PySem.W.nsIn K kdFI "key" = some (some .none))
    (nk_commit : PySem.W.nsIn K kdFI "commit" = some (some .none))
    (nk_held : PySem.W.nsIn K kdFI "held" = some (some .none))
    (hBE : PySem.W.hasDictIn K BE = true)
    (tBE : PySem.W.typeIn K (.ref BE) = some (.type "type"))
    (opq : PySem.W.nsIn K cStatics "thirdparty.any" = some none)
    (topE : (l.prog.main.scope.names.lookup ("super" : Str)).isSome = false)
    (hDcF : PySem.W.hasDictIn K cF = true)
    (tYcF : PySem.W.typeIn K (.ref cF) = some (.type "type"))
    (hDcK : PySem.W.hasDictIn K cK = true)
    (tYcK : PySem.W.typeIn K (.ref cK) = some (.type "type"))
    (hDcM : PySem.W.hasDictIn K cM = true)
    (tYcM : PySem.W.typeIn K (.ref cM) = some (.type "type"))
    (sEcF : PySem.W.subIn K (.ref cF) (.ref BE) = some true)
    (sBcF : PySem.W.subIn K (.ref cF) (.type "BaseException") = some true)
    (sVcF : PySem.W.subIn K (.ref cF) (.type "ValueError") = some true)
    (neBcF : (Value.ref cF == Value.ref BE) = false)
    (fd_cF_getattribute : PySem.W.findIn K (.ref cF) "__getattribute__" = some (some (.builtin "BaseException.__getattribute__")))
    (fd_cF_getattr : PySem.W.findIn K (.ref cF) "__getattr__" = some none)
    (fd_cF_class : PySem.W.findIn K (.ref cF) "__class__" = some (some (.builtin "object.__class__")))
    (fd_cF_setattr : PySem.W.findIn K (.ref cF) "__setattr__" = some (some (.builtin "object.__setattr__")))
    (mOcF : PySem.W.mroIn K cF (.type "object") = some true)
    (fd_cF_name : PySem.W.findIn K (.ref cF) "name" = some none)
    (fd_cF_reason : PySem.W.findIn K (.ref cF) "reason" = some none)
    (scFcF : PySem.W.subIn K (.ref cF) (.ref cF) = some true)
    (scFcK : PySem.W.subIn K (.ref cF) (.ref cK) = some false)
    (necFcK : (Value.ref cF == Value.ref cK) = false)
    (scFcM : PySem.W.subIn K (.ref cF) (.ref cM) = some false)
    (necFcM : (Value.ref cF == Value.ref cM) = false)
    (clEcF : K.lookup cF = some (excClassObj nmEcF qEcF cF NEcF bsEcF bmEcF true snEcF subEcF abEcF colEcF ddEcF j0_cF j1_cF j2_cF j3_cF j5_cF "ValueError.__new__"))
    (veEcF : PySem.HandSPX.refsVE bmEcF = true)
    (kEcF : PySem.W.keepIn K (.ref cF) = true)
    (iniEcF : PySem.W.findIn K (.ref cF) "__init__" = some (some (.ref fIcF)))
    (fnEcF : PySem.W.typeIn K (.ref fIcF) = some (.type "function"))
    (lEcF : K.lookup fIcF = some ⟨ocEcF, odEcF, .func (PySem.W.ksFn "__init__" "InvalidField.__init__" (defArgs s_InvalidField___init__) (defBody s_InvalidField___init__) (defScope s_InvalidField___init__) .none kVEcF dcEcF pmEcF anEcF (.ref cdacF) ctEcF cccF), slEcF⟩)
    (cEcF : PySem.W.codeIn K (.ref cdacF) "InvalidField.__init__" = true)
    (lCcF : K.lookup cdacF = some ⟨cclcF, cddcF, .fields vsEcF, ccscF⟩)
    (vEcF : vsEcF[2]? = some (.str fileEcF tfEcF))
    (fEcF : ((l.prog.main.file : Str) == fileEcF) = true)
    (lcccF : K.lookup cccF = some ⟨ccvcF, cldcF, .cell (some (.ref cF)), cslcF⟩)
    (clIcF : PySem.W.clsIn K cF = some cdEcF)
    (mEcF : PySem.W.mroIn K cF (.ref cF) = some true)
    (kIcF : PySem.W.keepIn K (.ref fIcF) = true)
    (upEcF : PySem.W.ks_superIn K cF cF "__init__" = some (some (.builtin "ValueError.__init__")))
    (sEcK : PySem.W.subIn K (.ref cK) (.ref BE) = some true)
    (sBcK : PySem.W.subIn K (.ref cK) (.type "BaseException") = some true)
    (sVcK : PySem.W.subIn K (.ref cK) (.type "ValueError") = some true)
    (neBcK : (Value.ref cK == Value.ref BE) = false)
    (fd_cK_getattribute : PySem.W.findIn K (.ref cK) "__getattribute__" = some (some (.builtin "BaseException.__getattribute__")))
    (fd_cK_getattr : PySem.W.findIn K (.ref cK) "__getattr__" = some none)
    (fd_cK_class : PySem.W.findIn K (.ref cK) "__class__" = some (some (.builtin "object.__class__")))
    (fd_cK_setattr : PySem.W.findIn K (.ref cK) "__setattr__" = some (some (.builtin "object.__setattr__")))
    (mOcK : PySem.W.mroIn K cK (.type "object") = some true)
    (fd_cK_value : PySem.W.findIn K (.ref cK) "value" = some none)
    (scKcF : PySem.W.subIn K (.ref cK) (.ref cF) = some false)
    (necKcF : (Value.ref cK == Value.ref cF) = false)
    (scKcK : PySem.W.subIn K (.ref cK) (.ref cK) = some true)
    (scKcM : PySem.W.subIn K (.ref cK) (.ref cM) = some false)
    (necKcM : (Value.ref cK == Value.ref cM) = false)
    (clEcK : K.lookup cK = some (excClassObj nmEcK qEcK cK NEcK bsEcK bmEcK true snEcK subEcK abEcK colEcK ddEcK j0_cK j1_cK j2_cK j3_cK j5_cK "ValueError.__new__"))
    (veEcK : PySem.HandSPX.refsVE bmEcK = true)
    (kEcK : PySem.W.keepIn K (.ref cK) = true)
    (iniEcK : PySem.W.findIn K (.ref cK) "__init__" = some (some (.ref fIcK)))
    (fnEcK : PySem.W.typeIn K (.ref fIcK) = some (.type "function"))
    (lEcK : K.lookup fIcK = some ⟨ocEcK, odEcK, .func (PySem.W.ksFn "__init__" "InvalidKind.__init__" (defArgs s_InvalidKind___init__) (defBody s_InvalidKind___init__) (defScope s_InvalidKind___init__) .none kVEcK dcEcK pmEcK anEcK (.ref cdacK) ctEcK cccK), slEcK⟩)
    (cEcK : PySem.W.codeIn K (.ref cdacK) "InvalidKind.__init__" = true)
    (lCcK : K.lookup cdacK = some ⟨cclcK, cddcK, .fields vsEcK, ccscK⟩)
    (vEcK : vsEcK[2]? = some (.str fileEcK tfEcK))
    (fEcK : ((l.prog.main.file : Str) == fileEcK) = true)
    (lcccK : K.lookup cccK = some ⟨ccvcK, cldcK, .cell (some (.ref cK)), cslcK⟩)
    (clIcK : PySem.W.clsIn K cK = some cdEcK)
    (mEcK : PySem.W.mroIn K cK (.ref cK) = some true)
    (kIcK : PySem.W.keepIn K (.ref fIcK) = true)
    (upEcK : PySem.W.ks_superIn K cK cK "__init__" = some (some (.builtin "ValueError.__init__")))
    (n_is_int : PySem.W.nsIn K mainGlobals "is_int" = some (some (.ref f_is_int)))
    (l_is_int : K.lookup f_is_int = some ⟨ocv21, odv21, .func (PySem.W.fnOf "is_int" "is_int" (defArgs s_is_int) (defBody s_is_int) (defScope s_is_int) .none kVv21 dcv21 pmv21 anv21 cdv21 ctv21), slv21⟩)
    (c_is_int : PySem.W.codeIn K cdv21 "is_int" = true)
    (k_is_int : PySem.W.keepIn K (.ref f_is_int) = true)
    (n_full_word : PySem.W.nsIn K mainGlobals "full_word" = some (some (.ref f_full_word)))
    (l_full_word : K.lookup f_full_word = some ⟨ocv22, odv22, .func (PySem.W.fnOf "full_word" "full_word" (defArgs s_full_word) (defBody s_full_word) (defScope s_full_word) .none kVv22 dcv22 pmv22 anv22 cdv22 ctv22), slv22⟩)
    (c_full_word : PySem.W.codeIn K cdv22 "full_word" = true)
    (k_full_word : PySem.W.keepIn K (.ref f_full_word) = true)
    (n_is_word : PySem.W.nsIn K mainGlobals "is_word" = some (some (.ref f_is_word)))
    (l_is_word : K.lookup f_is_word = some ⟨ocv23, odv23, .func (PySem.W.fnOf "is_word" "is_word" (defArgs s_is_word) (defBody s_is_word) (defScope s_is_word) .none kVv23 dcv23 pmv23 anv23 cdv23 ctv23), slv23⟩)
    (c_is_word : PySem.W.codeIn K cdv23 "is_word" = true)
    (k_is_word : PySem.W.keepIn K (.ref f_is_word) = true)
    (n_has_only : PySem.W.nsIn K mainGlobals "has_only" = some (some (.ref f_has_only)))
    (l_has_only : K.lookup f_has_only = some ⟨ocv24, odv24, .func (PySem.W.fnOf "has_only" "has_only" (defArgs s_has_only) (defBody s_has_only) (defScope s_has_only) .none kVv24 dcv24 pmv24 anv24 cdv24 ctv24), slv24⟩)
    (c_has_only : PySem.W.codeIn K cdv24 "has_only" = true)
    (k_has_only : PySem.W.keepIn K (.ref f_has_only) = true)
    (n_is_name : PySem.W.nsIn K mainGlobals "is_name" = some (some (.ref f_is_name)))
    (l_is_name : K.lookup f_is_name = some ⟨ocv25, odv25, .func (PySem.W.fnOf "is_name" "is_name" (defArgs s_is_name) (defBody s_is_name) (defScope s_is_name) .none kVv25 dcv25 pmv25 anv25 cdv25 ctv25), slv25⟩)
    (c_is_name : PySem.W.codeIn K cdv25 "is_name" = true)
    (k_is_name : PySem.W.keepIn K (.ref f_is_name) = true)
    (n_is_place : PySem.W.nsIn K mainGlobals "is_place" = some (some (.ref f_is_place)))
    (l_is_place : K.lookup f_is_place = some ⟨ocv26, odv26, .func (PySem.W.fnOf "is_place" "is_place" (defArgs s_is_place) (defBody s_is_place) (defScope s_is_place) .none kVv26 dcv26 pmv26 anv26 cdv26 ctv26), slv26⟩)
    (c_is_place : PySem.W.codeIn K cdv26 "is_place" = true)
    (k_is_place : PySem.W.keepIn K (.ref f_is_place) = true)
    (n_is_reset : PySem.W.nsIn K mainGlobals "is_reset" = some (some (.ref f_is_reset)))
    (l_is_reset : K.lookup f_is_reset = some ⟨ocv27, odv27, .func (PySem.W.fnOf "is_reset" "is_reset" (defArgs s_is_reset) (defBody s_is_reset) (defScope s_is_reset) .none kVv27 dcv27 pmv27 anv27 cdv27 ctv27), slv27⟩)
    (c_is_reset : PySem.W.codeIn K cdv27 "is_reset" = true)
    (k_is_reset : PySem.W.keepIn K (.ref f_is_reset) = true)
    (n__law_pen : PySem.W.nsIn K mainGlobals "_law_pen" = some (some (.ref f__law_pen)))
    (l__law_pen : K.lookup f__law_pen = some ⟨ocv28, odv28, .func (PySem.W.fnOf "_law_pen" "_law_pen" (defArgs s__law_pen) (defBody s__law_pen) (defScope s__law_pen) .none kVv28 dcv28 pmv28 anv28 cdv28 ctv28), slv28⟩)
    (c__law_pen : PySem.W.codeIn K cdv28 "_law_pen" = true)
    (k__law_pen : PySem.W.keepIn K (.ref f__law_pen) = true)
    (n__law_draw : PySem.W.nsIn K mainGlobals "_law_draw" = some (some (.ref f__law_draw)))
    (l__law_draw : K.lookup f__law_draw = some ⟨ocv29, odv29, .func (PySem.W.fnOf "_law_draw" "_law_draw" (defArgs s__law_draw) (defBody s__law_draw) (defScope s__law_draw) .none kVv29 dcv29 pmv29 anv29 cdv29 ctv29), slv29⟩)
    (c__law_draw : PySem.W.codeIn K cdv29 "_law_draw" = true)
    (k__law_draw : PySem.W.keepIn K (.ref f__law_draw) = true)
    (n__law_same : PySem.W.nsIn K mainGlobals "_law_same" = some (some (.ref f__law_same)))
    (l__law_same : K.lookup f__law_same = some ⟨ocv30, odv30, .func (PySem.W.fnOf "_law_same" "_law_same" (defArgs s__law_same) (defBody s__law_same) (defScope s__law_same) .none kVv30 dcv30 pmv30 anv30 cdv30 ctv30), slv30⟩)
    (c__law_same : PySem.W.codeIn K cdv30 "_law_same" = true)
    (k__law_same : PySem.W.keepIn K (.ref f__law_same) = true)
    (n__law_name : PySem.W.nsIn K mainGlobals "_law_name" = some (some (.ref f__law_name)))
    (l__law_name : K.lookup f__law_name = some ⟨ocv31, odv31, .func (PySem.W.fnOf "_law_name" "_law_name" (defArgs s__law_name) (defBody s__law_name) (defScope s__law_name) .none kVv31 dcv31 pmv31 anv31 cdv31 ctv31), slv31⟩)
    (c__law_name : PySem.W.codeIn K cdv31 "_law_name" = true)
    (k__law_name : PySem.W.keepIn K (.ref f__law_name) = true)
    (n__law_is_name : PySem.W.nsIn K mainGlobals "_law_is_name" = some (some (.ref f__law_is_name)))
    (l__law_is_name : K.lookup f__law_is_name = some ⟨ocv32, odv32, .func (PySem.W.fnOf "_law_is_name" "_law_is_name" (defArgs s__law_is_name) (defBody s__law_is_name) (defScope s__law_is_name) .none kVv32 dcv32 pmv32 anv32 cdv32 ctv32), slv32⟩)
    (c__law_is_name : PySem.W.codeIn K cdv32 "_law_is_name" = true)
    (k__law_is_name : PySem.W.keepIn K (.ref f__law_is_name) = true)
    (n__law_is_from : PySem.W.nsIn K mainGlobals "_law_is_from" = some (some (.ref f__law_is_from)))
    (l__law_is_from : K.lookup f__law_is_from = some ⟨ocv33, odv33, .func (PySem.W.fnOf "_law_is_from" "_law_is_from" (defArgs s__law_is_from) (defBody s__law_is_from) (defScope s__law_is_from) .none kVv33 dcv33 pmv33 anv33 cdv33 ctv33), slv33⟩)
    (c__law_is_from : PySem.W.codeIn K cdv33 "_law_is_from" = true)
    (k__law_is_from : PySem.W.keepIn K (.ref f__law_is_from) = true)
    (n__law_right : PySem.W.nsIn K mainGlobals "_law_right" = some (some (.ref f__law_right)))
    (l__law_right : K.lookup f__law_right = some ⟨ocv34, odv34, .func (PySem.W.fnOf "_law_right" "_law_right" (defArgs s__law_right) (defBody s__law_right) (defScope s__law_right) .none kVv34 dcv34 pmv34 anv34 cdv34 ctv34), slv34⟩)
    (c__law_right : PySem.W.codeIn K cdv34 "_law_right" = true)
    (k__law_right : PySem.W.keepIn K (.ref f__law_right) = true)
    (n__law_odd : PySem.W.nsIn K mainGlobals "_law_odd" = some (some (.ref f__law_odd)))
    (l__law_odd : K.lookup f__law_odd = some ⟨ocv35, odv35, .func (PySem.W.fnOf "_law_odd" "_law_odd" (defArgs s__law_odd) (defBody s__law_odd) (defScope s__law_odd) .none kVv35 dcv35 pmv35 anv35 cdv35 ctv35), slv35⟩)
    (c__law_odd : PySem.W.codeIn K cdv35 "_law_odd" = true)
    (k__law_odd : PySem.W.keepIn K (.ref f__law_odd) = true)
    (n__law_spoil : PySem.W.nsIn K mainGlobals "_law_spoil" = some (some (.ref f__law_spoil)))
    (l__law_spoil : K.lookup f__law_spoil = some ⟨ocv36, odv36, .func (PySem.W.fnOf "_law_spoil" "_law_spoil" (defArgs s__law_spoil) (defBody s__law_spoil) (defScope s__law_spoil) .none kVv36 dcv36 pmv36 anv36 cdv36 ctv36), slv36⟩)
    (c__law_spoil : PySem.W.codeIn K cdv36 "_law_spoil" = true)
    (k__law_spoil : PySem.W.keepIn K (.ref f__law_spoil) = true)
    (n__law_due : PySem.W.nsIn K mainGlobals "_law_due" = some (some (.ref f__law_due)))
    (l__law_due : K.lookup f__law_due = some ⟨ocv37, odv37, .func (PySem.W.fnOf "_law_due" "_law_due" (defArgs s__law_due) (defBody s__law_due) (defScope s__law_due) .none kVv37 dcv37 pmv37 anv37 cdv37 ctv37), slv37⟩)
    (c__law_due : PySem.W.codeIn K cdv37 "_law_due" = true)
    (k__law_due : PySem.W.keepIn K (.ref f__law_due) = true)
    (n__law_make : PySem.W.nsIn K mainGlobals "_law_make" = some (some (.ref f__law_make)))
    (l__law_make : K.lookup f__law_make = some ⟨ocv38, odv38, .func (PySem.W.fnOf "_law_make" "_law_make" (defArgs s__law_make) (defBody s__law_make) (defScope s__law_make) .none kVv38 dcv38 pmv38 anv38 cdv38 ctv38), slv38⟩)
    (c__law_make : PySem.W.codeIn K cdv38 "_law_make" = true)
    (k__law_make : PySem.W.keepIn K (.ref f__law_make) = true)
    (n__law_refused : PySem.W.nsIn K mainGlobals "_law_refused" = some (some (.ref f__law_refused)))
    (l__law_refused : K.lookup f__law_refused = some ⟨ocv39, odv39, .func (PySem.W.fnOf "_law_refused" "_law_refused" (defArgs s__law_refused) (defBody s__law_refused) (defScope s__law_refused) .none kVv39 dcv39 pmv39 anv39 cdv39 ctv39), slv39⟩)
    (c__law_refused : PySem.W.codeIn K cdv39 "_law_refused" = true)
    (k__law_refused : PySem.W.keepIn K (.ref f__law_refused) = true)
    (n__law_attributes : PySem.W.nsIn K mainGlobals "_law_attributes" = some (some (.ref f__law_attributes)))
    (l__law_attributes : K.lookup f__law_attributes = some ⟨ocv40, odv40, .func (PySem.W.fnOf "_law_attributes" "_law_attributes" (defArgs s__law_attributes) (defBody s__law_attributes) (defScope s__law_attributes) .none kVv40 dcv40 pmv40 anv40 cdv40 ctv40), slv40⟩)
    (c__law_attributes : PySem.W.codeIn K cdv40 "_law_attributes" = true)
    (k__law_attributes : PySem.W.keepIn K (.ref f__law_attributes) = true)
    (n__law_other_kind : PySem.W.nsIn K mainGlobals "_law_other_kind" = some (some (.ref f__law_other_kind)))
    (l__law_other_kind : K.lookup f__law_other_kind = some ⟨ocv41, odv41, .func (PySem.W.fnOf "_law_other_kind" "_law_other_kind" (defArgs s__law_other_kind) (defBody s__law_other_kind) (defScope s__law_other_kind) .none kVv41 dcv41 pmv41 anv41 cdv41 ctv41), slv41⟩)
    (c__law_other_kind : PySem.W.codeIn K cdv41 "_law_other_kind" = true)
    (k__law_other_kind : PySem.W.keepIn K (.ref f__law_other_kind) = true)
    (n__law_other : PySem.W.nsIn K mainGlobals "_law_other" = some (some (.ref f__law_other)))
    (l__law_other : K.lookup f__law_other = some ⟨ocv42, odv42, .func (PySem.W.fnOf "_law_other" "_law_other" (defArgs s__law_other) (defBody s__law_other) (defScope s__law_other) .none kVv42 dcv42 pmv42 anv42 cdv42 ctv42), slv42⟩)
    (c__law_other : PySem.W.codeIn K cdv42 "_law_other" = true)
    (k__law_other : PySem.W.keepIn K (.ref f__law_other) = true)
    (n_law : PySem.W.nsIn K mainGlobals "law" = some (some (.ref f_law)))
    (l_law : K.lookup f_law = some ⟨ocv43, odv43, .func (PySem.W.fnOf "law" "law" (defArgs s_law) (defBody s_law) (defScope s_law) .none kVv43 dcv43 pmv43 anv43 cdv43 ctv43), slv43⟩)
    (c_law : PySem.W.codeIn K cdv43 "law" = true)
    (k_law : PySem.W.keepIn K (.ref f_law) = true) :
    ∃ fd : FuncData, (∀ (s : Shared) (u : Value), BindsTo s fd ⟨[u], []⟩ [("_law_script", u)]) ∧
      ∀ base : Heap, K.In base → base.Ns mainGlobals mg → Gd l.prog w K mg base CX0 8 fa fd ["_law_script"] (spLaw K) := by
  have e := hfa.symm.trans (PySem.W.mg_of X G n_law)
  cases e
  have B : Law.B1 mg := ⟨PySem.W.mg_none_of X G no_int, PySem.W.mg_none_of X G no_len, PySem.W.mg_none_of X G no_abs, PySem.W.mg_none_of X G no_list, PySem.W.mg_none_of X G no_repr, PySem.W.mg_none_of X G no_range, PySem.W.mg_none_of X G no_str, PySem.W.mg_none_of X G no_isinstance, PySem.W.mg_none_of X G no_tuple, PySem.W.mg_none_of X G no_bool, PySem.W.mg_none_of X G no_all⟩
  have T : K8 K mg C mc := {
    g_Kind := PySem.W.mg_of X G n_Kind
    g_isinstance := PySem.W.mg_none_of X G no_isinstance
    cl := ⟨pg, hd, po, fd_C_setattr⟩
    nR := fd_C_reading
    nW := fd_C_writing
    nD := fd_C_device
    nS := fd_C_states
    rd := ⟨rdI, gaI⟩
    cR := ⟨aR, ⟨v_READINGS, rfl⟩, ktup q_aR rfl (.cons ⟨_, rfl⟩ (.cons ⟨_, rfl⟩ (.nil)))⟩
    cW := ⟨bW, ⟨v_WRITINGS, rfl⟩, ktup q_bW rfl (.cons ⟨_, rfl⟩ (.cons ⟨_, rfl⟩ (.cons ⟨_, rfl⟩ (.cons ⟨_, rfl⟩ (.cons ⟨_, rfl⟩ (.cons ⟨_, rfl⟩ (.cons ⟨_, rfl⟩ (.nil))))))))⟩
    cD := ⟨aD, ⟨v_DEVICES, rfl⟩, ktup q_aD rfl (.cons ⟨_, rfl⟩ (.cons ⟨_, rfl⟩ (.cons ⟨_, rfl⟩ (.cons ⟨_, rfl⟩ (.nil)))))⟩
    isC := fd_C_class
    isG := isG
    isT := isT
    isM := isM }
  have TF : F19 K mg CF := ⟨PySem.W.mg_of X G n_Field, ⟨pgF, hdF, poF, fd_CF_setattr⟩, fd_CF_kind, fd_CF_name, fd_CF_low, fd_CF_size, fd_CF_reading, fd_CF_writing, fd_CF_device, fd_CF_reset, fd_CF_lock, fd_CF_key, fd_CF_commit, fd_CF_held⟩
  have GG : G19 mg := ⟨⟨_, PySem.W.mg_of X G n_CAPITALS⟩, ⟨_, PySem.W.mg_of X G n_NAME_LETTERS⟩, ⟨_, PySem.W.mg_of X G n_LONGEST_NAME⟩, ⟨_, PySem.W.mg_of X G n_HIGHEST_PLACE⟩, ⟨_, PySem.W.mg_of X G n_MOST_FIELD_BITS⟩, ⟨_, PySem.W.mg_of X G n_WIDEST⟩⟩
  have ne : CF ≠ C := fun z => by rw [z] at neF; simp at neF
  refine ⟨PySem.W.fnOf "law" "law" (defArgs s_law) (defBody s_law) (defScope s_law) .none kVv43 dcv43 pmv43 anv43 cdv43 ctv43, fun s v => .of_eq rfl, fun base _ _ => ?_⟩
  have Dis_int := defAt_of X G n_is_int l_is_int c_is_int k_is_int bd_is_int
  have Dfull_word := defAt_of X G n_full_word l_full_word c_full_word k_full_word bd_full_word
  have Dis_word := defAt_of X G n_is_word l_is_word c_is_word k_is_word bd_is_word
  have Dhas_only := defAt_of X G n_has_only l_has_only c_has_only k_has_only bd_has_only
  have Dis_name := defAt_of X G n_is_name l_is_name c_is_name k_is_name bd_is_name
  have Dis_place := defAt_of X G n_is_place l_is_place c_is_place k_is_place bd_is_place
  have Dis_reset := defAt_of X G n_is_reset l_is_reset c_is_reset k_is_reset bd_is_reset
  have D_law_pen := defAt_of X G n__law_pen l__law_pen c__law_pen k__law_pen bd__law_pen
  have D_law_draw := defAt_of X G n__law_draw l__law_draw c__law_draw k__law_draw bd__law_draw
  have D_law_same := defAt_of X G n__law_same l__law_same c__law_same k__law_same bd__law_same
  have D_law_name := defAt_of X G n__law_name l__law_name c__law_name k__law_name bd__law_name
  have D_law_is_name := defAt_of X G n__law_is_name l__law_is_name c__law_is_name k__law_is_name bd__law_is_name
  have D_law_is_from := defAt_of X G n__law_is_from l__law_is_from c__law_is_from k__law_is_from bd__law_is_from
  have D_law_right := defAt_of X G n__law_right l__law_right c__law_right k__law_right bd__law_right
  have D_law_odd := defAt_of X G n__law_odd l__law_odd c__law_odd k__law_odd bd__law_odd
  have D_law_spoil := defAt_of X G n__law_spoil l__law_spoil c__law_spoil k__law_spoil bd__law_spoil
  have D_law_due := defAt_of X G n__law_due l__law_due c__law_due k__law_due bd__law_due
  have D_law_make := defAt_of X G n__law_make l__law_make c__law_make k__law_make bd__law_make
  have D_law_refused := defAt_of X G n__law_refused l__law_refused c__law_refused k__law_refused bd__law_refused
  have D_law_attributes := defAt_of X G n__law_attributes l__law_attributes c__law_attributes k__law_attributes bd__law_attributes
  have D_law_other_kind := defAt_of X G n__law_other_kind l__law_other_kind c__law_other_kind k__law_other_kind bd__law_other_kind
  have D_law_other := defAt_of X G n__law_other l__law_other c__law_other k__law_other bd__law_other
  have M_init := metAt_of a_Kind___init__ i_Kind___init__ l_Kind___init__ c_Kind___init__ k_Kind___init__ bd_Kind___init__
  have M_eq := metAt_of a_Kind___eq__ i_Kind___eq__ l_Kind___eq__ c_Kind___eq__ k_Kind___eq__ bd_Kind___eq__
  have E_may_be_held := metAt_of a_Field_may_be_held i_Field_may_be_held l_Field_may_be_held c_Field_may_be_held k_Field_may_be_held bd_Field_may_be_held
  have E_eq := metAt_of a_Field___eq__ i_Field___eq__ l_Field___eq__ c_Field___eq__ k_Field___eq__ bd_Field___eq__
  have OcF : OexC K cF := ⟨⟨_, _, _, _, _, _, _, _, _, _, _, _, _, _, _, clEcF, veEcF⟩, fd_cF_setattr, sBcF, tYcF, kEcF⟩
  have XcF : XfC K cF := ⟨fd_cF_getattribute, fd_cF_getattr, sBcF, hDcF⟩
  have YcF : ExcC K cF := ⟨fd_cF_getattribute, fd_cF_getattr, sBcF, hDcF, fd_cF_class, isG, isT, mOcF⟩
  have FcF : FunS l.prog K "__init__" "InvalidField.__init__" s_InvalidField___init__ fIcF cF _ := ⟨⟨_, _, _, _, _, _, cdacF, cccF, rfl, cEcF, { lkF := ⟨_, _, _, lEcF⟩, lkC := ⟨_, _, _, _, _, _, lCcF, vEcF, fEcF⟩, lkCell := ⟨_, _, _, lcccF⟩, cls := ⟨_, clIcF⟩, opq := opq, nosup := no_super, top := topE }⟩, kIcF⟩
  have OcK : OexC K cK := ⟨⟨_, _, _, _, _, _, _, _, _, _, _, _, _, _, _, clEcK, veEcK⟩, fd_cK_setattr, sBcK, tYcK, kEcK⟩
  have XcK : XfC K cK := ⟨fd_cK_getattribute, fd_cK_getattr, sBcK, hDcK⟩
  have YcK : ExcC K cK := ⟨fd_cK_getattribute, fd_cK_getattr, sBcK, hDcK, fd_cK_class, isG, isT, mOcK⟩
  have FcK : FunS l.prog K "__init__" "InvalidKind.__init__" s_InvalidKind___init__ fIcK cK _ := ⟨⟨_, _, _, _, _, _, cdacK, cccK, rfl, cEcK, { lkF := ⟨_, _, _, lEcK⟩, lkC := ⟨_, _, _, _, _, _, lCcK, vEcK, fEcK⟩, lkCell := ⟨_, _, _, lcccK⟩, cls := ⟨_, clIcK⟩, opq := opq, nosup := no_super, top := topE }⟩, kIcK⟩
  have ERF : ErrF K mg cF cK BE cM := {
    gF := PySem.W.mg_of X G n_InvalidField
    gK := PySem.W.mg_of X G n_InvalidKind
    gB := PySem.W.mg_of X G n_BitError
    gM := PySem.W.mg_of X G n_InvalidMap
    gi := PySem.W.mg_none_of X G no_isinstance
    xFF := PySem.W.exm_ref sBcF hDcF tYcF scFcF
    xKF := PySem.W.exm_ref sBcF hDcF tYcF scKcF
    xKK := PySem.W.exm_ref sBcK hDcK tYcK scKcK
    fF := XcF
    fK := XcK
    n1 := fd_cF_name
    n2 := fd_cF_reason
    n3 := fd_cK_value
    eF := YcF
    eK := YcK
    kFB := kit_own hBE tBE neBcF sEcF
    kKB := kit_own hBE tBE neBcK sEcK
    kF := kitAny_cons (b := false) (kit_own hDcK tYcK necFcK scFcK) (fun _ => kitAny_cons (b := false) (kit_own hDcM tYcM necFcM scFcM) (fun _ => rfl) nofun) nofun
    kK := kitAny_cons (b := false) (kit_own hDcF tYcF necKcF scKcF) (fun _ => kitAny_cons (b := false) (kit_own hDcM tYcM necKcM scKcM) (fun _ => rfl) nofun) nofun }
  have nfC : PySem.W.notFirst K C (.ref C) = true := by
    unfold PySem.W.notFirst
    simp
  have nfF : PySem.W.notFirst K CF (.ref CF) = true := by
    unfold PySem.W.notFirst
    simp
  have cInt := ok_is_int (P := l.prog) (w := w) (base := base) Dis_int B
  have cFw := ok_full_word (P := l.prog) (w := w) (base := base) Dfull_word
  have cIw := ok_is_word (P := l.prog) (w := w) (base := base) Dis_word cInt cFw
  have cHo := ok_has_only (P := l.prog) (w := w) (base := base) Dhas_only B GG
  have cNm := ok_is_name (P := l.prog) (w := w) (base := base) Dis_name GG cHo
  have cPl := ok_is_place (P := l.prog) (w := w) (base := base) Dis_place GG cInt
  have cRs := ok_is_reset (P := l.prog) (w := w) (base := base) Dis_reset cIw
  have GeK := ok_eKind (mg := mg) (w := w) (base := base) FcK OcK mEcK upEcK sVcK fd_cK_value
  have GeF := ok_eField (mg := mg) (w := w) (base := base) FcF OcF mEcF upEcF sVcF fd_cF_name fd_cF_reason
  obtain ⟨fd1, x1, F1, b1, G1⟩ := ok_IK (P := l.prog) (w := w) (base := base) M_init T (PySem.W.mg_of X G n_InvalidKind) OcK iniEcK fnEcK GeK binds_e1
  obtain ⟨fd2, x2, F2, b2, G2⟩ := ok_EQ (P := l.prog) (w := w) (base := base) M_eq T
  obtain ⟨fd3, x3, F3, b3, G3⟩ := ok_MH (P := l.prog) (w := w) (base := base) E_may_be_held TF
  have mMH : Met l.prog w K mg base 1 CF "may_be_held" _ (spMH CF) := ⟨fd3, _, x3, b3, G3⟩
  have FFI : FunD K "__init__" "Field.__init__" (defArgs s_Field___init__) (defBody s_Field___init__) (defScope s_Field___init__) [] [("reading", .str "keep"), ("writing", .str "store"), ("device", .str "still"), ("reset", .int 0), ("lock", .non), ("key", .non), ("commit", .non), ("held", .non)] fFI _ :=
    ⟨⟨_, _, _, _, _, _, _, _, _, _, rfl, l_FI, c_FI, .inl ⟨rfl, rfl⟩, .inr ⟨kdFI, rfl, fun q hq => by
      simp only [List.mem_cons, List.not_mem_nil, or_false] at hq
      rcases hq with rfl | rfl | rfl | rfl | rfl | rfl | rfl | rfl
      · exact ⟨_, nk_reading, _, rfl⟩
      · exact ⟨_, nk_writing, _, rfl⟩
      · exact ⟨_, nk_device, _, rfl⟩
      · exact ⟨_, nk_reset, _, rfl⟩
      · exact ⟨_, nk_lock, rfl⟩
      · exact ⟨_, nk_key, rfl⟩
      · exact ⟨_, nk_commit, rfl⟩
      · exact ⟨_, nk_held, rfl⟩⟩⟩, k_FI⟩
  have GIF := ok_IF (P := l.prog) (fdK := fd1) (w := w) (base := base) FFI T TF ne (PySem.W.mg_of X G n_InvalidField) OcF iniEcF fnEcF GeF binds_e2 ⟨mk, a_Kind___init__, i_Kind___init__, kc⟩ G1 b1 cNm cPl cRs mMH G2 b2 a_Kind___eq__ i_Kind___eq__ fd_C_ne nfC
  have MKF : Mk K CF fFI := ⟨mkF, a_FI, i_FI, kcF⟩
  obtain ⟨fd4, x4, F4, b4, G4⟩ := ok_FEq (P := l.prog) (w := w) (base := base) E_eq B T TF fd_CF_class isMF G2 b2 a_Kind___eq__ i_Kind___eq__ nfC
  have cDr := ok_draw (P := l.prog) (w := w) (base := base) D_law_draw (bi_of B)
  have cPn := ok_pen (P := l.prog) (w := w) (base := base) D_law_pen (bi_of B)
  have cFr := ok_isfr (P := l.prog) (w := w) (base := base) D_law_is_from B
  have cNa := ok_name (P := l.prog) (w := w) (base := base) D_law_name B cDr
  have cIn := ok_law_is_name (P := l.prog) (w := w) (base := base) D_law_is_name B
  have cDu := ok_due (P := l.prog) (w := w) (base := base) D_law_due B cIn cFr
  have cAt := ok_attr (P := l.prog) (w := w) (base := base) (C := C) D_law_attributes TF
  have cMk := ok_make (P := l.prog) (w := w) (base := base) D_law_make TF MKF GIF kb_one
  have cRf := ok_refused (P := l.prog) (w := w) (base := base) D_law_refused ERF TF MKF GIF kb_four
  have cRi := ok_right (P := l.prog) (w := w) (base := base) D_law_right B cDr cNa
  have cOd := ok_odd (P := l.prog) (w := w) (base := base) D_law_odd B cDr
  have cSp := ok_spoil (P := l.prog) (w := w) (base := base) D_law_spoil B cDr cOd cFr
  have cSa := ok_same (P := l.prog) (w := w) (base := base) D_law_same B (PySem.W.mg_none_of X G no_dict) (PySem.W.mg_none_of X G no_zip) 4
  have cOk := ok_other_kind (P := l.prog) (w := w) (base := base) D_law_other_kind B cDr
  have cOt := ok_other (P := l.prog) (w := w) (base := base) D_law_other B cDr cOk
  obtain ⟨dO, vO, bO⟩ := bind_field FFI
  exact ok_law (fun_mk (st := s_law) l_law c_law k_law) B T TF cPn cDr cRi cSp cDu cRf cSa cMk cAt cOt MKF GIF bO vO G4 b4 a_Field___eq__ i_Field___eq__ fd_CF_ne isMF fd_CF_class nfF nfS (kit_own hdF tyF rfl snS)
end Law

set_option Elab.async false
set_option linter.all false
set_option maxRecDepth 100000
set_option maxHeartbeats 4000000
namespace Law
open PySem PySem.Spec PySem.Calls PyProof.Rows L2 KG
local macro_rules | `(tactic| walk_at "1") => `(tactic| first
  | (with_reducible refine w_var rfl ?_) | (with_reducible refine w_c ?_) | (with_reducible refine w_seq ?_) | (with_reducible refine w_asg ?_) | (with_reducible refine w_gname ?_) | (with_reducible refine w_op ?_) | (with_reducible refine w_un ?_)
  | (with_reducible refine w_add ?_) | (with_reducible refine w_sub ?_) | ((with_reducible refine' w_mod ?mo ?_); (case mo => first | assumption | decide | omega)) | (with_reducible refine w_and ?_) | (with_reducible refine w_or ?_) | (with_reducible refine w_xor ?_)
  | (with_reducible refine w_gt ?_) | (with_reducible refine w_lt ?_) | (with_reducible refine w_ge ?_) | (with_reducible refine w_le ?_) | ((with_reducible refine' w_eq ?sc ?_); (case sc => rfl)) | ((with_reducible refine' w_ne ?sc ?_); (case sc => rfl))
  | (with_reducible refine w_ret ?_) | (with_reducible refine w_next ?_) | (with_reducible refine w_ifs ?_) | (with_reducible refine w_ifx ?_) | (with_reducible refine w_test ?_) | (with_reducible refine w_tB ?_) | (with_reducible refine w_bl ?_)
  | ((with_reducible refine' w_ixL ?ixh ?ixa ?_); (case ixh => first | exact SqL.of (by assumption)); (case ixa => first | rfl | skip)) | ((with_reducible refine' w_ixT ?ixh ?ixa ?_); (case ixh => first | exact SqT.of (by assumption)); (case ixa => first | rfl | skip))
  | ((with_reducible refine' w_fld ?_)) | ((with_reducible refine' fld ?fh ?fc ?fn ?fl ?_); (case fh => assumption); (case fc => assumption); (case fn => assumption); (case fl => rfl)) | (with_reducible refine w_sfld ?_)
  | (with_reducible refine Or.inl ⟨_, rfl, ?_⟩) | (with_reducible refine w_gsub ?_) | (with_reducible refine w_andV ?_) | (with_reducible refine w_orV ?_)
  | (with_reducible refine w_nil ?_) | (with_reducible refine w_cons ?_) | (with_reducible refine w_tup ?_) | (with_reducible refine w_lst ?_) | (with_reducible refine w_and2 ?_) | (with_reducible refine w_or2 ?_) | (with_reducible refine w_not ?_) | (with_reducible refine w_cb ?_) | (with_reducible refine w_call ?_) | (with_reducible refine w_par ?_) | (with_reducible refine w_pnil ?_) | (with_reducible refine w_pcons ?_) | (with_reducible refine w_dput ?_) | (with_reducible refine w_dget ?_) | (with_reducible refine w_for ?_) | (with_reducible refine w_itup ?_) | (with_reducible refine w_ilist ?_) | (with_reducible refine w_irng ?_) | (with_reducible refine w_meth ?_) | (with_reducible refine w_make ?_) | (with_reducible refine w_makeK ?_) | (with_reducible refine w_methK ?_) | ((with_reducible refine' mth ?mh ?ml ?_); (case mh => assumption); (case ml => rfl)) | (with_reducible refine w_drop ?_))
local macro_rules | `(tactic| walk_at "go") => `(tactic| ((repeat (walk_at "1")); try dsimp only))
local macro_rules | `(tactic| walk_at "1") => `(tactic| first
  | (with_reducible refine w_notV ?_) | (with_reducible refine w_callK ?_) | (with_reducible refine w_lc ?_) | (with_reducible refine w_chain ?_) | (with_reducible refine w_neg ?_) | ((with_reducible refine' w_shr ?mo ?_); (case mo => first | assumption | omega)))
end Law
open PySem PySem.W PyProof.Rows
set_option maxRecDepth 100000 in
set_option maxHeartbeats 0 in
theorem PySem.Challenge.cw_keptbits_k19_fields_made_holds : PySem.Challenge.rw_keptbits_k19_fields_made.Holds := by
  w_on; o_law; k_head; (case hw => w_witness2)
  k_fill
  refine KG.walk_gdK (CX := L2.CX0) (sp := Law.spLaw) (k := 8) (n := 63) (x := "_law_script") (l := PySem.Challenge.rw_keptbits_k19_fields_made) rfl (by decide) rfl ⟨rfl, by decide, by decide⟩ (fun w h Y => PySem.W.kIn_of Y) ?F ?g1 ?g2
  case g1 => exact fun K H a ns hl _ hS => ⟨a, ns, rfl, hS, hl, fun _ => rfl⟩
  case g2 => exact fun _ _ _ _ z => z
  case F =>
    intro w mg fa h KX G hmg
    refine' Law.all KX G hmg ?n_Kind ?n_Field ?n_BitError ?n_InvalidField ?n_InvalidKind ?n_InvalidMap ?n_CAPITALS ?n_NAME_LETTERS ?n_LONGEST_NAME ?n_HIGHEST_PLACE ?n_MOST_FIELD_BITS ?n_WIDEST ?no_int ?no_len ?no_abs ?no_list ?no_repr ?no_range ?no_str ?no_isinstance ?no_tuple ?no_bool ?no_all ?no_dict ?no_zip ?no_super ?pg ?hd ?po ?fd_C_setattr ?fd_C_reading ?fd_C_writing ?fd_C_device ?fd_C_states ?fd_C_class ?fd_C_ne ?isG ?isT ?isM ?mk ?kc ?mcT ?rdI ?gaI ?v_READINGS ?q_aR ?v_WRITINGS ?q_bW ?v_DEVICES ?q_aD ?a_Kind___init__ ?i_Kind___init__ ?l_Kind___init__ ?c_Kind___init__ ?k_Kind___init__ ?a_Kind___eq__ ?i_Kind___eq__ ?l_Kind___eq__ ?c_Kind___eq__ ?k_Kind___eq__ ?neF ?pgF ?hdF ?poF ?fd_CF_setattr ?fd_CF_kind ?fd_CF_name ?fd_CF_low ?fd_CF_size ?fd_CF_reading ?fd_CF_writing ?fd_CF_device ?fd_CF_reset ?fd_CF_lock ?fd_CF_key ?fd_CF_commit ?fd_CF_held ?fd_CF_class ?fd_CF_ne ?isMF ?mkF ?kcF ?tyF ?snS ?nfS ?a_Field_may_be_held ?i_Field_may_be_held ?l_Field_may_be_held ?c_Field_may_be_held ?k_Field_may_be_held ?a_Field___eq__ ?i_Field___eq__ ?l_Field___eq__ ?c_Field___eq__ ?k_Field___eq__ ?a_FI ?i_FI ?l_FI ?c_FI ?k_FI ?nk_reading ?nk_writing ?nk_device ?nk_reset ?nk_lock ?nk_key ?nk_commit ?nk_held ?hBE ?tBE ?opq ?topE ?hDcF ?tYcF ?hDcK ?tYcK ?hDcM ?tYcM ?sEcF ?sBcF ?sVcF ?neBcF ?fd_cF_getattribute ?fd_cF_getattr ?fd_cF_class ?fd_cF_setattr ?mOcF ?fd_cF_name ?fd_cF_reason ?scFcF ?scFcK ?necFcK ?scFcM ?necFcM ?clEcF ?veEcF ?kEcF ?iniEcF ?fnEcF ?lEcF ?cEcF ?lCcF ?vEcF ?fEcF ?lcccF ?clIcF ?mEcF ?kIcF ?upEcF ?sEcK ?sBcK ?sVcK ?neBcK ?fd_cK_getattribute ?fd_cK_getattr ?fd_cK_class ?fd_cK_setattr ?mOcK ?fd_cK_value ?scKcF ?necKcF ?scKcK ?scKcM ?necKcM ?clEcK ?veEcK ?kEcK ?iniEcK ?fnEcK ?lEcK ?cEcK ?lCcK ?vEcK ?fEcK ?lcccK ?clIcK ?mEcK ?kIcK ?upEcK ?n_is_int ?l_is_int ?c_is_int ?k_is_int ?n_full_word ?l_full_word ?c_full_word ?k_full_word ?n_is_word ?l_is_word ?c_is_word ?k_is_word ?n_has_only ?l_has_only ?c_has_only ?k_has_only ?n_is_name ?l_is_name ?c_is_name ?k_is_name ?n_is_place ?l_is_place ?c_is_place ?k_is_place ?n_is_reset ?l_is_reset ?c_is_reset ?k_is_reset ?n__law_pen ?l__law_pen ?c__law_pen ?k__law_pen ?n__law_draw ?l__law_draw ?c__law_draw ?k__law_draw ?n__law_same ?l__law_same ?c__law_same ?k__law_same ?n__law_name ?l__law_name ?c__law_name ?k__law_name ?n__law_is_name ?l__law_is_name ?c__law_is_name ?k__law_is_name ?n__law_is_from ?l__law_is_from ?c__law_is_from ?k__law_is_from ?n__law_right ?l__law_right ?c__law_right ?k__law_right ?n__law_odd ?l__law_odd ?c__law_odd ?k__law_odd ?n__law_spoil ?l__law_spoil ?c__law_spoil ?k__law_spoil ?n__law_due ?l__law_due ?c__law_due ?k__law_due ?n__law_make ?l__law_make ?c__law_make ?k__law_make ?n__law_refused ?l__law_refused ?c__law_refused ?k__law_refused ?n__law_attributes ?l__law_attributes ?c__law_attributes ?k__law_attributes ?n__law_other_kind ?l__law_other_kind ?c__law_other_kind ?k__law_other_kind ?n__law_other ?l__law_other ?c__law_other ?k__law_other ?n_law ?l_law ?c_law ?k_law
    (case n_Kind => k_is)
    (case n_Field => k_is)
    (case n_BitError => k_is)
    (case n_InvalidField => k_is)
    (case n_InvalidKind => k_is)
    (case n_InvalidMap => k_is)
    (case n_CAPITALS => k_is)
    (case n_NAME_LETTERS => k_is)
    (case n_LONGEST_NAME => k_is)
    (case n_HIGHEST_PLACE => k_is)
    (case n_MOST_FIELD_BITS => k_is)
    (case n_WIDEST => k_is)
    (case no_int => k_is)
    (case no_len => k_is)
    (case no_abs => k_is)
    (case no_list => k_is)
    (case no_repr => k_is)
    (case no_range => k_is)
    (case no_str => k_is)
    (case no_isinstance => k_is)
    (case no_tuple => k_is)
    (case no_bool => k_is)
    (case no_all => k_is)
    (case no_dict => k_is)
    (case no_zip => k_is)
    (case no_super => k_is)
    (case pg => k_is)
    (case hd => k_is)
    (case po => k_is)
    (case fd_C_setattr => k_is)
    (case fd_C_reading => k_is)
    (case fd_C_writing => k_is)
    (case fd_C_device => k_is)
    (case fd_C_states => k_is)
    (case fd_C_class => k_is)
    (case fd_C_ne => k_is)
    (case isG => k_is)
    (case isT => k_is)
    (case isM => k_is)
    (case mk => k_is)
    (case kc => k_is)
    (case mcT => k_is)
    (case rdI => k_is)
    (case gaI => k_is)
    (case v_READINGS => k_is)
    (case q_aR => k_is)
    (case v_WRITINGS => k_is)
    (case q_bW => k_is)
    (case v_DEVICES => k_is)
    (case q_aD => k_is)
    (case a_Kind___init__ => k_is)
    (case i_Kind___init__ => k_is)
    (case l_Kind___init__ => k_is)
    (case c_Kind___init__ => k_is)
    (case k_Kind___init__ => k_is)
    (case a_Kind___eq__ => k_is)
    (case i_Kind___eq__ => k_is)
    (case l_Kind___eq__ => k_is)
    (case c_Kind___eq__ => k_is)
    (case k_Kind___eq__ => k_is)
    (case neF => rfl)
    (case pgF => k_is)
    (case hdF => k_is)
    (case poF => k_is)
    (case fd_CF_setattr => k_is)
    (case fd_CF_kind => k_is)
    (case fd_CF_name => k_is)
    (case fd_CF_low => k_is)
    (case fd_CF_size => k_is)
    (case fd_CF_reading => k_is)
    (case fd_CF_writing => k_is)
    (case fd_CF_device => k_is)
    (case fd_CF_reset => k_is)
    (case fd_CF_lock => k_is)
    (case fd_CF_key => k_is)
    (case fd_CF_commit => k_is)
    (case fd_CF_held => k_is)
    (case fd_CF_class => k_is)
    (case fd_CF_ne => k_is)
    (case isMF => k_is)
    (case mkF => k_is)
    (case kcF => k_is)
    (case tyF => k_is)
    (case snS => k_is)
    (case nfS => k_is)
    (case a_Field_may_be_held => k_is)
    (case i_Field_may_be_held => k_is)
    (case l_Field_may_be_held => k_is)
    (case c_Field_may_be_held => k_is)
    (case k_Field_may_be_held => k_is)
    (case a_Field___eq__ => k_is)
    (case i_Field___eq__ => k_is)
    (case l_Field___eq__ => k_is)
    (case c_Field___eq__ => k_is)
    (case k_Field___eq__ => k_is)
    (case a_FI => k_is)
    (case i_FI => k_is)
    (case l_FI => k_is)
    (case c_FI => k_is)
    (case k_FI => k_is)
    (case nk_reading => k_is)
    (case nk_writing => k_is)
    (case nk_device => k_is)
    (case nk_reset => k_is)
    (case nk_lock => k_is)
    (case nk_key => k_is)
    (case nk_commit => k_is)
    (case nk_held => k_is)
    (case hBE => k_is)
    (case tBE => k_is)
    (case opq => k_is)
    (case topE => rfl)
    (case hDcF => k_is)
    (case tYcF => k_is)
    (case hDcK => k_is)
    (case tYcK => k_is)
    (case hDcM => k_is)
    (case tYcM => k_is)
    (case sEcF => k_is)
    (case sBcF => k_is)
    (case sVcF => k_is)
    (case neBcF => rfl)
    (case fd_cF_getattribute => k_is)
    (case fd_cF_getattr => k_is)
    (case fd_cF_class => k_is)
    (case fd_cF_setattr => k_is)
    (case mOcF => k_is)
    (case fd_cF_name => k_is)
    (case fd_cF_reason => k_is)
    (case scFcF => k_is)
    (case scFcK => k_is)
    (case necFcK => rfl)
    (case scFcM => k_is)
    (case necFcM => rfl)
    (case clEcF => k_is)
    (case veEcF => rfl)
    (case kEcF => k_is)
    (case iniEcF => k_is)
    (case fnEcF => k_is)
    (case lEcF => k_is)
    (case cEcF => k_is)
    (case lCcF => k_is)
    (case vEcF => rfl)
    (case fEcF => rfl)
    (case lcccF => k_is)
    (case clIcF => k_is)
    (case mEcF => k_is)
    (case kIcF => k_is)
    (case upEcF => first | k_is | kernel_rfl | decide +kernel | rfl)
    (case sEcK => k_is)
    (case sBcK => k_is)
    (case sVcK => k_is)
    (case neBcK => rfl)
    (case fd_cK_getattribute => k_is)
    (case fd_cK_getattr => k_is)
    (case fd_cK_class => k_is)
    (case fd_cK_setattr => k_is)
    (case mOcK => k_is)
    (case fd_cK_value => k_is)
    (case scKcF => k_is)
    (case necKcF => rfl)
    (case scKcK => k_is)
    (case scKcM => k_is)
    (case necKcM => rfl)
    (case clEcK => k_is)
    (case veEcK => rfl)
    (case kEcK => k_is)
    (case iniEcK => k_is)
    (case fnEcK => k_is)
    (case lEcK => k_is)
    (case cEcK => k_is)
    (case lCcK => k_is)
    (case vEcK => rfl)
    (case fEcK => rfl)
    (case lcccK => k_is)
    (case clIcK => k_is)
    (case mEcK => k_is)
    (case kIcK => k_is)
    (case upEcK => first | k_is | kernel_rfl | decide +kernel | rfl)
    (case n_is_int => k_is)
    (case l_is_int => k_is)
    (case c_is_int => k_is)
    (case k_is_int => k_is)
    (case n_full_word => k_is)
    (case l_full_word => k_is)
    (case c_full_word => k_is)
    (case k_full_word => k_is)
    (case n_is_word => k_is)
    (case l_is_word => k_is)
    (case c_is_word => k_is)
    (case k_is_word => k_is)
    (case n_has_only => k_is)
    (case l_has_only => k_is)
    (case c_has_only => k_is)
    (case k_has_only => k_is)
    (case n_is_name => k_is)
    (case l_is_name => k_is)
    (case c_is_name => k_is)
    (case k_is_name => k_is)
    (case n_is_place => k_is)
    (case l_is_place => k_is)
    (case c_is_place => k_is)
    (case k_is_place => k_is)
    (case n_is_reset => k_is)
    (case l_is_reset => k_is)
    (case c_is_reset => k_is)
    (case k_is_reset => k_is)
    (case n__law_pen => k_is)
    (case l__law_pen => k_is)
    (case c__law_pen => k_is)
    (case k__law_pen => k_is)
    (case n__law_draw => k_is)
    (case l__law_draw => k_is)
    (case c__law_draw => k_is)
    (case k__law_draw => k_is)
    (case n__law_same => k_is)
    (case l__law_same => k_is)
    (case c__law_same => k_is)
    (case k__law_same => k_is)
    (case n__law_name => k_is)
    (case l__law_name => k_is)
    (case c__law_name => k_is)
    (case k__law_name => k_is)
    (case n__law_is_name => k_is)
    (case l__law_is_name => k_is)
    (case c__law_is_name => k_is)
    (case k__law_is_name => k_is)
    (case n__law_is_from => k_is)
    (case l__law_is_from => k_is)
    (case c__law_is_from => k_is)
    (case k__law_is_from => k_is)
    (case n__law_right => k_is)
    (case l__law_right => k_is)
    (case c__law_right => k_is)
    (case k__law_right => k_is)
    (case n__law_odd => k_is)
    (case l__law_odd => k_is)
    (case c__law_odd => k_is)
    (case k__law_odd => k_is)
    (case n__law_spoil => k_is)
    (case l__law_spoil => k_is)
    (case c__law_spoil => k_is)
    (case k__law_spoil => k_is)
    (case n__law_due => k_is)
    (case l__law_due => k_is)
    (case c__law_due => k_is)
    (case k__law_due => k_is)
    (case n__law_make => k_is)
    (case l__law_make => k_is)
    (case c__law_make => k_is)
    (case k__law_make => k_is)
    (case n__law_refused => k_is)
    (case l__law_refused => k_is)
    (case c__law_refused => k_is)
    (case k__law_refused => k_is)
    (case n__law_attributes => k_is)
    (case l__law_attributes => k_is)
    (case c__law_attributes => k_is)
    (case k__law_attributes => k_is)
    (case n__law_other_kind => k_is)
    (case l__law_other_kind => k_is)
    (case c__law_other_kind => k_is)
    (case k__law_other_kind => k_is)
    (case n__law_other => k_is)
    (case l__law_other => k_is)
    (case c__law_other => k_is)
    (case k__law_other => k_is)
    (case n_law => k_is)
    (case l_law => k_is)
    (case c_law => k_is)
    (case k_law => k_is)
#print axioms PySem.Challenge.cw_keptbits_k19_fields_made_holds
