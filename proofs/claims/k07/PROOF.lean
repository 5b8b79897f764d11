import PyProof.Rows.All
import Wide.All
import OpenK.AllK
import Wide.FinOn
import HandS.ForMost
import HandS.ForExc
import HandS.MakeKw
import HandS.FStr
import HandS.Conv
import HandS.ClsMeth
import KE.KCallOwn
import HandS.IsInst
import PyProof.InstEq
import HandS.TupAny
import PySem.Challenge.RW_keptbits_k07_kinds_walked
set_option Elab.async false
set_option linter.all false
set_option maxRecDepth 100000
set_option maxHeartbeats 4000000
/-! KG: defs that are promised something where nothing is being shown (no repr under way), so that repr of data is an exact text. -/
namespace KG
open PySem PySem.Spec PyProof.Rows L2

/-- the promise of a def, for callers around which nothing is being shown -/
structure Gd (P : Program) (w : World) (K : PySem.W.Frag) (mg : Str → Option Value) (base : Heap) (CX : CXT) (k : Nat) (f : Addr) (fd : FuncData) (ps : List Str) (sp : Sp) : Prop where
  len : ∀ vs H Q E, sp vs H Q E → vs.length = ps.length
  go : ∀ (A : Around) (outer : List Env) (s : Shared) (H : Hp) (args : Args) (us : List Value) (vs : List V) (Q : VK) (E : XK),
    Room k A → A.guards = some [] → Env0 P w K mg base A outer s H → BindsTo s fd args (ps.zip us) → Vals vs us → sp vs H Q E →
    codeAny (model P w) A (.call (.ref f) args) (CR CX outer P w H s Q E) s

section
variable {P : Program} {w : World} {K : PySem.W.Frag} {mg : Str → Option Value} {base : Heap} {CX : CXT} {k j : Nat} {f : Addr} {fd : FuncData} {ps : List Str} {sp sp' : Sp}
theorem Gd.mono (F : Gd P w K mg base CX j f fd ps sp) (h : j ≤ k) : Gd P w K mg base CX k f fd ps sp :=
  ⟨F.len, fun A o s H a us vs Q E rm => F.go A o s H a us vs Q E (rm.mono h)⟩
theorem Gd.imp (F : Gd P w K mg base CX k f fd ps sp) (h : ∀ vs H Q E, sp' vs H Q E → sp vs H Q E) : Gd P w K mg base CX k f fd ps sp' :=
  ⟨fun vs H Q E q => F.len vs H Q E (h _ _ _ _ q), fun A o s H a us vs Q E rm gd e0 bt rv q => F.go A o s H a us vs Q E rm gd e0 bt rv (h _ _ _ _ q)⟩
theorem Gd.of_ok (F : FnOk P w K mg base CX k f fd ps sp) : Gd P w K mg base CX k f fd ps sp :=
  ⟨F.len, fun A o s H a us vs Q E rm _ e0 bt rv q => F.run A o s H a us vs Q E rm e0 bt rv q⟩

/-- a def by its body -/
theorem gd_of {name qual : Str} {params : Arguments} {body : List Stmt} {scope : Scope} {dV kV doc pm cdv ct oc : Value} {an od : Option Addr}
    {osl : Array (Option Value)} {N : List Str}
    (found : K.lookup f = some ⟨oc, od, .func (PySem.W.fnOf name qual params body scope dV kV doc pm an cdv ct), osl⟩)
    (code : PySem.W.codeIn K cdv qual = true) (sc : FnScope N ps scope) (len : ∀ vs H Q E, sp vs H Q E → vs.length = ps.length)
    (inner : ∀ (A : Around) (outer : List Env) (s : Shared) (H : Hp) (vs : List V) (Q : VK) (E : XK),
      Room k (A.deeper (envOfC qual scope s.heap.objs.size f cdv)) → (A.deeper (envOfC qual scope s.heap.objs.size f cdv)).guards = some [] → sp vs H Q E →
      ∃ t, PSs (cxOf CX P w K mg base N qual scope f cdv A outer s H E) body t ∧ t { nx := fun _ H' => Q .non H', rt := Q } (start N vs) H) :
    Gd P w K mg base CX (k + 1) f (PySem.W.fnOf name qual params body scope dV kV doc pm an cdv ct) ps sp := by
  refine ⟨len, fun A outer s H args us vs Q E rm gd e0 bt rv q0 => ?_⟩
  have llen := len _ _ _ _ q0
  have kin : K.In s.heap := e0.mod.kin.keeps fun b o e => (e0.bs b o e).1
  have nolim : s.heap.NoLimit := e0.mod.nolimit.keeps fun b o e => (e0.bs b o e).1
  have kinds : ∀ y ∈ ps.zip us, scope.names.lookup y.1 = some .local ∨
      (scope.names.lookup y.1 = some .cell ∧ ((cellsFrom (s.heap.objs.size + 1) scope.names []).lookup y.1).isSome = true) := by
    intro ⟨n, v⟩ hy
    rcases sc.par n (List.of_mem_zip hy).1 with z | z
    · exact .inl z
    · exact .inr ⟨z, PySem.W.cellsFrom_some _ _ _ (.inl z)⟩
  refine codeAny_call_function rm.depth (kin _ _ found) rfl sc.co sc.gen rfl (PySem.W.codeRec_of kin code) (bt _ _ _ _ ?_)
  refine wpAny_newFunctionEnv_cells sc.kind kinds fun env he s1 x => ?_
  subst he
  refine ⟨nolim.keeps x.toInCall.keep, codeAny_func ?_⟩
  obtain ⟨t, ht, hq⟩ := inner A outer s H vs Q E (rm.deeper _) gd q0
  have I := inv_start (CX := CX) (E := E) sc rm.hd e0 llen rv x
  refine wpAny_mono (ht.run [] s1 (start N vs) H _ I hq) (fun fl s' hs => ?_) fun e s' hs => hs
  have done : ∀ {σ' : L2.St} {H' : Hp} {v : V} {u : Value}, Inv (cxOf CX P w K mg base N qual scope f cdv A outer s H E) [] σ' H' s' → RelV v u → Q v H' → CE outer P w H s Q u s' :=
    fun {σ' H' v u} J r q => ⟨v, H', J.os, J.bare, J.base, J.hok, r, q⟩
  cases fl with
  | ret u =>
    obtain ⟨v, σ', H', J, r, q⟩ := hs
    exact done J r q
  | next =>
    obtain ⟨σ', H', J, q⟩ := hs
    exact done (v := V.non) (u := Value.none) J rfl q
  | brk => exact hs.elim fun _ h => h.elim fun _ h => False.elim h.2
  | cont => exact hs.elim fun _ h => h.elim fun _ h => False.elim h.2

/-- a def of the text that raises nothing, by its body -/
theorem gd0 {x qual : Str} {st : Stmt} {N : List Str} (F : Fun K x qual st f fd) (sc : FnScope N ps (defScope st)) (len : ∀ vs H Q E, sp vs H Q E → vs.length = ps.length)
    (inner : ∀ (cdv : Value) (A : Around) (outer : List Env) (s : Shared) (H : Hp) (vs : List V) (Q : VK) (E : XK),
      Room k (A.deeper (envOfC qual (defScope st) s.heap.objs.size f cdv)) → (A.deeper (envOfC qual (defScope st) s.heap.objs.size f cdv)).guards = some [] → sp vs H Q E →
      ∃ t, PSs (cxOf CX0 P w K mg base N qual (defScope st) f cdv A outer s H E).nox (defBody st) t ∧ t { nx := fun _ H' => Q .non H', rt := Q } (start N vs) H) :
    Gd P w K mg base CX0 (k + 1) f fd ps sp := by
  obtain ⟨oc, od, kV, doc, pm, an, cdv, ct, osl, rfl, found, code⟩ := F.ex
  exact gd_of found code sc len fun A outer s H vs Q E rm gd q => (inner cdv A outer s H vs Q E rm gd q).elim fun t h => ⟨t, h.1.nox, h.2⟩
/-- a def of the text that may raise, by its body -/
theorem gdX {x qual : Str} {st : Stmt} {N : List Str} (F : Fun K x qual st f fd) (sc : FnScope N ps (defScope st)) (len : ∀ vs H Q E, sp vs H Q E → vs.length = ps.length)
    (inner : ∀ (cdv : Value) (A : Around) (outer : List Env) (s : Shared) (H : Hp) (vs : List V) (Q : VK) (E : XK),
      Room k (A.deeper (envOfC qual (defScope st) s.heap.objs.size f cdv)) → (A.deeper (envOfC qual (defScope st) s.heap.objs.size f cdv)).guards = some [] → sp vs H Q E →
      ∃ t, PSs (cxOf (L2.CX P w) P w K mg base N qual (defScope st) f cdv A outer s H E) (defBody st) t ∧ t { nx := fun _ H' => Q .non H', rt := Q } (start N vs) H) :
    Gd P w K mg base (L2.CX P w) (k + 1) f fd ps sp := by
  obtain ⟨oc, od, kV, doc, pm, an, cdv, ct, osl, rfl, found, code⟩ := F.ex
  exact gd_of found code sc len fun A outer s H vs Q E rm gd q => inner cdv A outer s H vs Q E rm gd q
end

/-! ### calls -/
section
variable {X : Cx} {CX : CXT} {k : Nat} {f C : Addr} {fd : FuncData} {ps ks : List Str} {sp : Sp} {dvs : List V} {ds : List Value} {E : XK} {x m : Str} {p pos apos : Pos} {e o : Expr} {es : List Expr} {kws : List Keyword} {ta te : TE} {t tk : TA}
/-- the callee runs, around it A with the same frames and nothing shown -/
theorem run_at {pins : List (Addr × Obj)} {σ : L2.St} {H : Hp} {s : Shared} {Q : VK} {us ws : List Value} {kw : List (Str × Value)} {vs : List V} {A : Around} {W : Value → Shared → Prop}
    (F : Gd X.prog X.w X.K X.mg X.base CX k f fd ps sp) (rm : Room k A) (gd : A.guards = some []) (e0 : Env0 X.prog X.w X.K X.mg X.base A X.stack s H)
    (pass : ∀ e s', CX X.stack H s E e s' → W e s')
    (I : Inv X pins σ H s) (bt : BindsTo s fd ⟨us, kw⟩ (ps.zip ws)) (r : Vals vs ws) (q : sp vs H Q E) : wpAny (model X.prog X.w) A (call (.ref f) us kw) (EP X pins σ Q) W s := by
  refine wpAny_call (codeAny_mono (F.go A X.stack s H ⟨us, kw⟩ ws vs Q E rm gd e0 bt r q) fun out s' hq => ?_)
  match out, hq with
  | .error e, hq => exact pass e s' hq
  | .ok (.ret u), hq => exact I.after hq
theorem run_g {pins : List (Addr × Obj)} {σ : L2.St} {H : Hp} {s : Shared} {Q : VK} {us ws : List Value} {kw : List (Str × Value)} {vs : List V}
    (F : Gd X.prog X.w X.K X.mg X.base CX k f fd ps sp) (rm : Room k X.A) (gd : X.A.guards = some []) (hx : Passes CX X E)
    (I : Inv X pins σ H s) (bt : BindsTo s fd ⟨us, kw⟩ (ps.zip ws)) (r : Vals vs ws) (q : sp vs H Q E) : wpAny (model X.prog X.w) X.A (call (.ref f) us kw) (EP X pins σ Q) X.xe s :=
  run_at F rm gd I.env0 (fun e s' hq => hx pins σ H s e s' I hq) I bt r q
theorem bind_pos {s : Shared} {us : List Value} {vs : List V} {H : Hp} {Q : VK} (F : Gd X.prog X.w X.K X.mg X.base CX k f fd ps sp) (hb : Binds X.K fd ps ds) (hd : Vals dvs ds) (KX : X.K.In s.heap) (r : Vals vs us) (q : sp (vs ++ dvs) H Q E) :
    BindsTo s fd ⟨us, []⟩ (ps.zip (us ++ ds)) := hb s us KX (by rw [← (r.append hd).length]; exact F.len _ _ _ _ q)

/-- f(e, ..) -/
theorem pe_gcall (F : Gd X.prog X.w X.K X.mg X.base CX k f fd ps sp) (rm : Room k X.A) (gd : X.A.guards = some []) (gl : Gl X x) (at_ : X.mg x = some (.ref f)) (kp : PySem.W.keepIn X.K (.ref f) = true) (hb : Binds X.K fd ps ds) (hd : Vals dvs ds) (hx : Passes CX X E)
    (ha : PA X (e :: es) t) (hdb : (x == ("__debug__" : Str)) = false := by decide) (he : starEach (e :: es) X.env = (false, eval e X.env) :: starEach es X.env := by rfl) (hpl : (backTo pos (starEach es X.env)).any (·.1) = false := by rfl) :
    PE X (.Call (.Name x p) (e :: es) [] pos) (tCall sp dvs E t) :=
  ⟨fun pins s σ H Q I h => wpAny_Call_Name_kw (ld_glob I gl at_ (PySem.W.callWith_K (h₀ := X.base) I.ok.mod.kin kp
    (thn (ha.run pos pins s σ H _ I h) fun us s1 ⟨vs, H1, J, r, q⟩ => ⟨J.kIn, run_g F rm gd hx J (bind_pos F hb hd J.kIn r q) (r.append hd) q⟩) he hpl) hdb)⟩
/-- f() -/
theorem pe_gcall0 (F : Gd X.prog X.w X.K X.mg X.base CX k f fd ps sp) (rm : Room k X.A) (gd : X.A.guards = some []) (gl : Gl X x) (at_ : X.mg x = some (.ref f)) (kp : PySem.W.keepIn X.K (.ref f) = true) (hb : Binds X.K fd ps ds) (hd : Vals dvs ds) (hx : Passes CX X E)
    (hdb : (x == ("__debug__" : Str)) = false := by decide) : PE X (.Call (.Name x p) [] [] pos) (tCall sp dvs E tNil) :=
  ⟨fun pins s σ H Q I h => wpAny_Call_Name_kw (ld_glob I gl at_ (PySem.W.callWith_K0 I.kIn kp (run_g (us := []) (vs := dvs) F rm gd hx I (bind_pos (vs := []) F hb hd I.kIn .nil h) (Vals.append .nil hd) h)) hdb)⟩
/-- o.m(e, ..) -/
theorem pe_gmeth {pl : Sem Bool} (he : PE X o ta) (c : Cls X.K C) (hm : Meth X.K C m f) (F : Gd X.prog X.w X.K X.mg X.base CX k f fd ps sp) (rm : Room k X.A) (gd : X.A.guards = some []) (hb : Binds X.K fd ps ds) (hd : Vals dvs ds) (hx : Passes CX X E) (ha : PA X (e :: es) t)
    (hst : starEach (e :: es) X.env = (false, eval e X.env) :: starEach es X.env := by rfl) (hpl : (backTo pos (starEach es X.env)).any (·.1) = false := by rfl)
    (ht : eval (.Call (.Attribute o m apos) (e :: es) [] pos) X.env = (do
      let w ← eval o X.env
      standAt apos.atName
      let (g, a) ← holding [w] (getMethod w m pl)
      callWith pos g a (backTo pos (starEach (e :: es) X.env)) (backToKw pos (keywordEach [] X.env))) := by rfl) :
    PE X (.Call (.Attribute o m apos) (e :: es) [] pos) (tMeth C m sp dvs E ta t) := by
  refine ⟨fun pins s σ H Q I h => PySem.W.methodCall_KW (pl := pl) (thn (he.run pins s σ H _ I h) fun u s1 ⟨y, H1, I1, ry, a, dx, fs, ey, ea, l, q⟩ => ?_) ht⟩
  subst ey
  obtain rfl : u = Value.ref a := ry
  refine getmeth_ok I1 ea c hm l (PySem.W.callWith_K (first := [.ref a]) (h₀ := X.base) I.ok.mod.kin hm.kp (thn (ha.run pos pins s1 σ H1 _ I1 q) fun us s2 ⟨vs, H2, J, r, q2⟩ => ⟨J.kIn, ?_⟩) hst hpl)
  have r1 : Vals (V.ref a :: vs) (Value.ref a :: us) := .cons rfl r
  exact run_g F rm gd hx J (bind_pos F hb hd J.kIn r1 q2) (r1.append hd) q2
/-- o.m() -/
theorem pe_gmeth0 {pl : Sem Bool} (he : PE X o ta) (c : Cls X.K C) (hm : Meth X.K C m f) (F : Gd X.prog X.w X.K X.mg X.base CX k f fd ps sp) (rm : Room k X.A) (gd : X.A.guards = some []) (hb : Binds X.K fd ps ds) (hd : Vals dvs ds) (hx : Passes CX X E)
    (ht : eval (.Call (.Attribute o m apos) [] [] pos) X.env = (do
      let w ← eval o X.env
      standAt apos.atName
      let (g, a) ← holding [w] (getMethod w m pl)
      callWith pos g a (backTo pos (starEach [] X.env)) (backToKw pos (keywordEach [] X.env))) := by rfl) :
    PE X (.Call (.Attribute o m apos) [] [] pos) (tMeth C m sp dvs E ta tNil) := by
  refine ⟨fun pins s σ H Q I h => PySem.W.methodCall_KW (pl := pl) (thn (he.run pins s σ H _ I h) fun u s1 ⟨y, H1, J, ry, a, dx, fs, ey, ea, l, q⟩ => ?_) ht⟩
  subst ey
  obtain rfl : u = Value.ref a := ry
  have r1 : Vals [V.ref a] [Value.ref a] := .cons rfl .nil
  exact getmeth_ok J ea c hm l (PySem.W.callWith_K0 (first := [.ref a]) J.kIn hm.kp (run_g (us := [.ref a]) F rm gd hx J (bind_pos (vs := [.ref a]) F hb hd J.kIn r1 q) (r1.append hd) q))

/-- some of a list, by places -/
def sel {α : Type} (is : List Nat) (l : List α) : List α := is.filterMap fun i => l[i]?
theorem sel_vals : ∀ (is : List Nat) {vs : List V} {us : List Value}, Vals vs us → Vals (sel is vs) (sel is us)
  | [], _, _, _ => .nil
  | i :: is, vs, us, r => by
    have ih := sel_vals is r
    unfold sel at ih ⊢
    rw [List.filterMap_cons, List.filterMap_cons]
    cases h : vs[i]? with
    | none => rw [r.none_of h]; exact ih
    | some v =>
      obtain ⟨u, e, rv⟩ := r.get h
      rw [e]
      exact .cons rv ih
/-- keywords behind n values: the keywords' values in the order of is -/
theorem kbn_of {K : PySem.W.Frag} {qual : Str} {st : Stmt} (F : Fun K x qual st f fd) (n : Nat) (ks : List Str) (is : List Nat)
    (h : ∀ (kV doc pm : Value) (an : Option Addr) (cdv ct : Value) (us ws : List Value), us.length = n → ws.length = ks.length →
      bindArgs (PySem.W.fnOf x qual (defArgs st) (defBody st) (defScope st) .none kV doc pm an cdv ct) ⟨us, ks.zip ws⟩ = pure (ps.zip (us ++ sel is ws))) :
    KBn K fd ps n ks (fun us ws => us ++ sel is ws) (fun vs zs => vs ++ sel is zs) := by
  obtain ⟨oc, od, kV, doc, pm, an, cdv, ct, osl, rfl, _, _⟩ := F.ex
  exact ⟨fun s us ws _ l1 l2 => .of_eq (h kV doc pm an cdv ct us ws l1 l2), fun r rz => r.append (sel_vals is rz)⟩
variable {n : Nat} {g : List Value → List Value → List Value} {gV : List V → List V → List V}
/-- o.m(k = v, ..) -/
def tMethK (C : Addr) (m : Str) (j : Nat) (sp : Sp) (gV : List V → List V → List V) (E : XK) (ta : TE) (tk : TA) : TE := fun σ H Q => ta σ H fun x H1 => ∃ a dx fs, x = .ref a ∧ H1 a = some (.ins C dx fs) ∧ fs.lookup m = none ∧
  tk σ H1 fun zs H2 => zs.length = j ∧ sp (gV [x] zs) H2 Q E
theorem pe_gmethK {pl : Sem Bool} (he : PE X o ta) (c : Cls X.K C) (hm : Meth X.K C m f) (F : Gd X.prog X.w X.K X.mg X.base CX k f fd ps sp) (rm : Room k X.A) (gd : X.A.guards = some []) (hb : KBn X.K fd ps 1 ks g gV) (hx : Passes CX X E) (hkw : PK X kws tk)
    (hall : (backToKw pos (keywordEach kws X.env)).all (·.1.isSome) = true := by rfl) (hks : (backToKw pos (keywordEach kws X.env)).filterMap (·.1) = ks := by rfl)
    (hpl : ((backTo pos (starEach [] X.env)).any (·.1) || (backToKw pos (keywordEach kws X.env)).any (·.1.isNone)) = false := by rfl)
    (ht : eval (.Call (.Attribute o m apos) [] kws pos) X.env = (do
      let w ← eval o X.env
      standAt apos.atName
      let (g, a) ← holding [w] (getMethod w m pl)
      callWith pos g a (backTo pos (starEach [] X.env)) (backToKw pos (keywordEach kws X.env))) := by rfl) :
    PE X (.Call (.Attribute o m apos) [] kws pos) (tMethK C m ks.length sp gV E ta tk) := by
  refine ⟨fun pins s σ H Q I h => PySem.W.methodCall_KW (pl := pl) (thn (he.run pins s σ H _ I h) fun u s1 ⟨y, H1, I1, ry, a, dx, fs, ey, ea, l, q⟩ => ?_) ht⟩
  subst ey
  obtain rfl : u = Value.ref a := ry
  refine getmeth_ok I1 ea c hm l (PySem.W.callWith_KW0 (first := [.ref a]) (h₀ := X.base) I.ok.mod.kin hm.kp hall (thn (hkw.run pos pins s1 σ H1 _ I1 q) fun ws s2 ⟨zs, H2, J, rz, lz, q2⟩ => ⟨J.kIn, ?_⟩) hpl)
  rw [hks]
  have r1 : Vals [V.ref a] [Value.ref a] := .cons rfl .nil
  exact run_g (us := [.ref a]) F rm gd hx J (hb.to s2 [.ref a] ws J.kIn rfl (rz.length.symm.trans lz)) (hb.rel r1 rz) q2

/-! ### new instances -/
theorem und_make {A : Around} {us : List Value} {kw : List (Str × Value)} : (A.under (.builtin "type.__call__" ⟨.ref C :: us, kw⟩)).guards = A.guards := by
  first | rfl | simp [Around.under, Code.guards, Code.isGuard, guardIds, pushGuards]
theorem run_gmake {pins : List (Addr × Obj)} {σ : L2.St} {H : Hp} {s : Shared} {Q : VK} {us : List Value} {kw : List (Str × Value)} (gW : Value → List Value) (gZ : V → List V) (M : Mk X.K C f) (F : Gd X.prog X.w X.K X.mg X.base CX k f fd ps sp) (rm : Room (k + 1) X.A) (gd : X.A.guards = some [])
    (hb : ∀ (s : Shared) (y : Addr), X.K.In s.heap → BindsTo s fd ⟨.ref y :: us, kw⟩ (ps.zip (gW (.ref y)))) (hv : ∀ y : Addr, Vals (gZ (.ref y)) (gW (.ref y)))
    (hx : Passes CX X E) (I : Inv X pins σ H s)
    (h : ∀ y dy, H y = none → H dy = none → dy ≠ y → sp (gZ (.ref y)) (upd (upd H dy (.own y)) y (.ins C dy [])) (fun v H2 => v = .non ∧ Q (.ref y) H2) E) :
    wpAny (model X.prog X.w) X.A (call (.ref C) us kw) (EP X pins σ Q) X.xe s := by
  have hq := h (s.heap.objs.size + 1) s.heap.objs.size (I.hok.fresh (Nat.le_succ _)) (I.hok.fresh (Nat.le_refl _)) (Nat.ne_of_lt (Nat.lt_succ_self _))
  have J := Inv.made (C := C) I
  refine wpAny_call (make_map (f := f) I.kIn M.makes M.init (beq_iff_eq.mp M.fn) (codeAny_mono (F.go _ X.stack _ _ ⟨Value.ref (s.heap.objs.size + 1) :: us, kw⟩ _ _ _ E (rm.make C us kw)
    (und_make.trans gd) (J.env0.make C us kw) (hb _ (s.heap.objs.size + 1) J.kIn) (hv _) hq) fun out s' hq' => ?_))
  match out, hq' with
  | .error e, hq' => exact hx pins σ _ _ e s' J hq'
  | .ok (.ret u), hq' =>
    obtain ⟨v, H', I3, rv, ev, q3⟩ := J.after hq'
    subst ev
    exact ⟨rv, ⟨V.ref (s.heap.objs.size + 1), H', I3, rfl, q3⟩⟩
/-- C(e, ..) -/
theorem pe_gmake (M : Mk X.K C f) (F : Gd X.prog X.w X.K X.mg X.base CX k f fd ps sp) (rm : Room (k + 1) X.A) (gd : X.A.guards = some []) (gl : Gl X x) (at_ : X.mg x = some (.ref C)) (hb : Binds X.K fd ps ds) (hd : Vals dvs ds) (hx : Passes CX X E)
    (ha : PA X (e :: es) t) (hdb : (x == ("__debug__" : Str)) = false := by decide) (he : starEach (e :: es) X.env = (false, eval e X.env) :: starEach es X.env := by rfl) (hpl : (backTo pos (starEach es X.env)).any (·.1) = false := by rfl) :
    PE X (.Call (.Name x p) (e :: es) [] pos) (tMake C sp dvs E t) := by
  refine ⟨fun pins s σ H Q I h => wpAny_Call_Name_kw (ld_glob I gl at_ (PySem.W.callWith_K (h₀ := X.base) I.ok.mod.kin M.kp (thn (ha.run pos pins s σ H _ I h) fun us s1 ⟨vs, H1, J, r, q⟩ => ⟨J.kIn, ?_⟩) he hpl) hdb)⟩
  have rr : ∀ y : Addr, Vals (V.ref y :: vs ++ dvs) (Value.ref y :: us ++ ds) := fun y => .cons rfl (r.append hd)
  have hl : ∀ y : Addr, (Value.ref y :: us ++ ds).length = ps.length := fun y => by
    have e := (rr y).length
    have q1 := q (s1.heap.objs.size + 1) s1.heap.objs.size (J.hok.fresh (Nat.le_succ _)) (J.hok.fresh (Nat.le_refl _)) (Nat.ne_of_lt (Nat.lt_succ_self _))
    have e1 := F.len _ _ _ _ q1
    rw [← e, ← e1]
    simp
  exact run_gmake (fun y => y :: us ++ ds) (fun y => y :: vs ++ dvs) M F rm gd (fun s y KX => hb s (.ref y :: us) KX (hl y)) rr hx J q
/-- C(k = v, ..) -/
def tMakeKG (C : Addr) (j : Nat) (sp : Sp) (gV : List V → List V → List V) (E : XK) (tk : TA) : TE := fun σ H Q => tk σ H fun zs H2 => zs.length = j ∧
  ∀ x dx, H2 x = none → H2 dx = none → dx ≠ x → sp (gV [.ref x] zs) (upd (upd H2 dx (.own x)) x (.ins C dx [])) (fun v H3 => v = .non ∧ Q (.ref x) H3) E
theorem pe_gmakeK (M : Mk X.K C f) (F : Gd X.prog X.w X.K X.mg X.base CX k f fd ps sp) (rm : Room (k + 1) X.A) (gd : X.A.guards = some []) (gl : Gl X x) (at_ : X.mg x = some (.ref C)) (hb : KBn X.K fd ps 1 ks g gV) (hx : Passes CX X E)
    (hkw : PK X kws tk) (hall : (backToKw pos (keywordEach kws X.env)).all (·.1.isSome) = true := by rfl) (hks : (backToKw pos (keywordEach kws X.env)).filterMap (·.1) = ks := by rfl)
    (hdb : (x == ("__debug__" : Str)) = false := by decide)
    (hpl : ((backTo pos (starEach [] X.env)).any (·.1) || (backToKw pos (keywordEach kws X.env)).any (·.1.isNone)) = false := by rfl) :
    PE X (.Call (.Name x p) [] kws pos) (tMakeKG C ks.length sp gV E tk) := by
  refine ⟨fun pins s σ H Q I h => wpAny_Call_Name_kw (ld_glob I gl at_ (PySem.W.callWith_KW0 (first := []) (h₀ := X.base) I.ok.mod.kin M.kp hall (thn (hkw.run pos pins s σ H _ I h) fun ws s2 ⟨zs, H2, J, rz, lz, q2⟩ => ⟨J.kIn, ?_⟩) hpl) hdb)⟩
  rw [hks]
  exact run_gmake (us := []) (fun y => g [y] ws) (fun y => gV [y] zs) M F rm gd (fun s y KX => hb.to s [.ref y] ws KX rfl (rz.length.symm.trans lz)) (fun y => hb.rel (.cons rfl .nil) rz) hx J q2
end
end KG

set_option Elab.async false
set_option linter.all false
set_option maxRecDepth 100000
set_option maxHeartbeats 4000000
/-! KR: the end of a law over such promises; repr of data, str of an own object, == and != by an own __eq__. -/
namespace KG
open PySem PySem.Spec PyProof.Rows L2

/-! ### the end: the law's def is called where nothing is shown -/
theorem law_gd {P : Program} {w : World} {K : PySem.W.Frag} {mg mb : Str → Option Value} {CX : CXT} {k : Nat} {fa a : Addr} {fd : FuncData} {x : Str} {sp : Sp} {s1 : Shared} {vs : List Value} {ns : List Int}
    (kin : K.In s1.heap) (nsm : s1.heap.Ns mainGlobals mg) (nsb : s1.heap.Ns builtinsNs mb) (mbb : ∀ x : Str, x ≠ "__name__" → mb x = bootBuiltins x) (lim : s1.heap.NoLimit) (nog : s1.gens = #[])
    (atA : s1.heap.get? a = some { cls := .type "list", data := .seq vs.toArray }) (isn : IntsAre vs ns) (small : ns.length ≤ sizeLine) (rm : Room k callerA)
    (F : ∀ base : Heap, K.In base → base.Ns mainGlobals mg → Gd P w K mg base CX k fa fd [x] sp) (bt : ∀ (s : Shared) (u : Value), BindsTo s fd ⟨[u], []⟩ [(x, u)])
    (start_ : ∀ H : Hp, Only H → SqL K H a (ns.map V.int) → sp [.ref a] H (fun v _ => v = .bl true) fun _ _ _ => False)
    (quiet : ∀ H e s', CX [] H s1 (fun _ _ _ => False) e s' → False) :
    codeAny (model P w) callerA (.call (.ref fa) ⟨[.ref a], []⟩) (fun r s' => r = .ok (.ret (.bool true)) ∧ OldK s1.heap s'.heap ∧ s'.os = s1.os ∧ AllBare s'.gens) s1 := by
  have rv := vals_ints isn
  have vlen := isn.length
  have from_ : ∀ H : Hp, Only H → SqL K H a (ns.map V.int) → HOk P w H s1.heap → (∀ b, H b ≠ none → b = a) → (H a ≠ none → K.lookup a = none) →
      codeAny (model P w) callerA (.call (.ref fa) ⟨[.ref a], []⟩) (fun r s' => r = .ok (.ret (.bool true)) ∧ OldK s1.heap s'.heap ∧ s'.os = s1.os ∧ AllBare s'.gens) s1 := by
    intro H only sq hok onlyA notK
    have free_of : ∀ {b : Addr} {o : Obj}, (H b ≠ none → b = a → False) → H b = none := fun {b o} h => by
      by_cases z : H b = none
      · exact z
      · exact (h z (onlyA b z)).elim
    have dict_free : ∀ {b : Addr} {o : Obj} {es : Array DictEntry} {ep : Nat}, s1.heap.get? b = some o → o.data = .dict es ep → H b = none := fun {b o es ep} e d =>
      free_of (o := o) fun _ eb => by
        rw [eb, atA] at e
        cases e
        exact nomatch d
    have ns_hid : ∀ {b : Addr} {m : Str → Option Value}, s1.heap.Ns b m → (hidT s1.heap H).Ns b m :=
      fun {b m} ⟨o, es, ep, e, d, r⟩ => ⟨o, es, ep, hidT_get e (dict_free e d), d, r⟩
    have kin_hid : K.In (hidT s1.heap H) := fun b o e => hidT_get (kin b o e) (free_of (o := o) fun z eb => by
      rw [eb] at e z
      rw [notK z] at e
      cases e)
    have mod : Mod K mg (hidT s1.heap H) := ⟨kin_hid, ns_hid nsm, ⟨mb, ns_hid nsb, mbb⟩, lim.elim fun mc h => ⟨mc, ns_hid h.1, h.2⟩⟩
    have e0 : Env0 P w K mg (hidT s1.heap H) callerA [] s1 H := ⟨rfl, mod, fun b o e => of_hidT e, Nat.le_of_eq (hidT_size _ _), trivial, fun b hb => absurd (show b ∈ ([] : List Addr) from hb) List.not_mem_nil, hok, .of_eq nog⟩
    refine codeAny_mono ((F _ kin_hid (ns_hid nsm)).go callerA [] s1 H ⟨[.ref a], []⟩ [.ref a] [.ref a] _ _ rm rfl e0 (bt s1 (.ref a)) (.cons rfl .nil) (start_ H only sq)) fun r s' h => ?_
    match r, h with
    | .error e, h => exact (quiet H e s' h).elim
    | .ok (.ret u), h =>
      obtain ⟨v, H', os, bare, un, hok', r', q⟩ := h
      have q' : v = .bl true := q
      subst q'
      obtain rfl : u = Value.bool true := r'
      refine ⟨rfl, OldK.of_keep fun b o e => ?_, os, bare⟩
      cases z : H b with
      | none => exact un.keep b o e z (by intro y; cases y) (by simp)
      | some t =>
        rcases only b with y | ⟨ob, xs, y⟩
        · rw [z] at y
          cases y
        · have y2 := un.frzs b ob _ y
          obtain ⟨g1, _⟩ := hok b _ y
          obtain ⟨g2, _⟩ := hok' b _ y2
          rw [e] at g1
          cases g1
          exact g2
  cases hk : K.lookup a with
  | some o =>
    have e := kin a o hk
    rw [atA] at e
    cases e
    exact from_ (fun _ => none) (fun _ => .inl rfl) (.inr ⟨_, vs.toArray, _, hk, rfl, rfl, rfl, by rw [List.size_toArray, vlen]; exact small, by simpa using rv⟩) (fun b u z => by cases z) (fun b z => absurd rfl z) fun z => absurd rfl z
  | none =>
    have at_a : ∀ {b : Addr} {u : HO}, (if b = a then some (HO.frz { cls := .type "list", data := .seq vs.toArray } (.lst (ns.map V.int))) else none) = some u → b = a := fun {b u} z => by
      by_cases hb : b = a
      · exact hb
      · rw [if_neg hb] at z
        cases z
    refine from_ (fun b => if b = a then some (.frz { cls := .type "list", data := .seq vs.toArray } (.lst (ns.map V.int))) else none) (fun b => ?_) (.inl (.inr ⟨{ cls := .type "list", data := .seq vs.toArray }, if_pos rfl⟩)) (fun b u z => ?_) (fun b z => ?_) fun _ => hk
    · by_cases hb : b = a
      · exact .inr ⟨_, _, if_pos hb⟩
      · exact .inl (if_neg hb)
    · obtain rfl := at_a z
      have z' := (if_pos rfl).symm.trans z
      cases z'
      exact ⟨atA, by rw [List.length_map]; exact small, vs, _, rv, atA⟩
    · by_cases hb : b = a
      · exact hb
      · exact absurd (if_neg hb) z

/-- the law's walk, from its promise where nothing is shown -/
theorem walk_gd {l : PySem.W.OpenLaw} {n k : Nat} {q : Program} {loose : List Str} {XP : (Str → Option Value) → Heap → Prop} {YP : World → Heap → Prop} {d : DefRec} {K : Params → PySem.W.Frag} {CX : World → CXT} {sp : World → Sp} {x : Str}
    (most : l.most = some n) (n2 : n ≤ sizeLine) (nod : d.params.defaults = []) (rm : Room k callerA)
    (hY : ∀ (w : World) (h : Heap), YP w h → (K w.params).In h)
    (F : ∀ (w : World) (mg : Str → Option Value) (fa : Addr) (h : Heap), (K w.params).In h → h.Ns mainGlobals mg → mg d.name = some (.ref fa) →
      ∃ fd : FuncData, (∀ (s : Shared) (u : Value), BindsTo s fd ⟨[u], []⟩ [(x, u)]) ∧
        ∀ base : Heap, (K w.params).In base → base.Ns mainGlobals mg → Gd l.prog w (K w.params) mg base (CX w) k fa fd [x] (sp w))
    (start_ : ∀ (w : World) (H : Hp) (a : Addr) (ns : List Int), ns.length ≤ n → Only H → SqL (K w.params) H a (ns.map V.int) → sp w [.ref a] H (fun v _ => v = .bl true) fun _ _ _ => False)
    (quiet : ∀ (w : World) (H : Hp) (s : Shared) (e : Value) (s' : Shared), CX w [] H s (fun _ _ _ => False) e s' → False) :
    PySem.W.WalkO q loose XP YP l.row.toRowW d [] (fun f vs => PySem.call f vs) := by
  refine Att.attach_call most nod fun w s0 s1 mg mb fa o pm cd doc a vs ns G Y ho hd hcd hmg hobj hints hlen hg => ?_
  have kin := hY w _ Y
  obtain ⟨fd, hb, hF⟩ := F w mg fa _ kin G.T.g hmg
  exact law_gd kin G.T.g G.T.b G.T.builtins G.T.nolimit hg hobj hints (Nat.le_trans hlen n2) rm hF hb (fun H hO hS => start_ w H a ns hlen hO hS) fun H e s' => quiet w H s1 e s'

/-- .. where the promise hangs on the written part alone -/
theorem walk_gdK {l : PySem.W.OpenLaw} {n k : Nat} {q : Program} {loose : List Str} {XP : (Str → Option Value) → Heap → Prop} {YP : World → Heap → Prop} {d : DefRec} {K : Params → PySem.W.Frag} {CX : CXT} {sp : PySem.W.Frag → Sp} {x : Str}
    (most : l.most = some n) (n2 : n ≤ sizeLine) (nod : d.params.defaults = []) (rm : Room k callerA)
    (hY : ∀ (w : World) (h : Heap), YP w h → (K w.params).In h)
    (F : ∀ (w : World) (mg : Str → Option Value) (fa : Addr) (h : Heap), (K w.params).In h → h.Ns mainGlobals mg → mg d.name = some (.ref fa) →
      ∃ fd : FuncData, (∀ (s : Shared) (u : Value), BindsTo s fd ⟨[u], []⟩ [(x, u)]) ∧
        ∀ base : Heap, (K w.params).In base → base.Ns mainGlobals mg → Gd l.prog w (K w.params) mg base CX k fa fd [x] (sp (K w.params)))
    (start_ : ∀ (K : PySem.W.Frag) (H : Hp) (a : Addr) (ns : List Int), ns.length ≤ n → Only H → SqL K H a (ns.map V.int) → sp K [.ref a] H (fun v _ => v = .bl true) fun _ _ _ => False)
    (quiet : ∀ (H : Hp) (s : Shared) (e : Value) (s' : Shared), CX [] H s (fun _ _ _ => False) e s' → False) :
    PySem.W.WalkO q loose XP YP l.row.toRowW d [] (fun f vs => PySem.call f vs) :=
  walk_gd (K := K) (CX := fun _ => CX) (sp := fun w => sp (K w.params)) most n2 nod rm hY F (fun w H a ns h1 h2 h3 => start_ (K w.params) H a ns h1 h2 h3) fun _ H s e s' => quiet H s e s'

/-! ### repr of data -/
section
variable {X : Cx}
/-- repr(x), x data: none, bools, ints, texts, lists, tuples -/
def rRepr (K : PySem.W.Frag) : List V → Hp → VK → Prop := fun xs H Q => ∃ x d, xs = [x] ∧ Dp K H x d ∧ d.showable = true ∧ d.hasDict = false ∧ d.depth ≤ 40 ∧ d.shown.length ≤ sizeLine ∧ Q (.str d.shown) H
theorem call_repr {k : Nat} (rm : Room k X.A) (gd : X.A.guards = some []) : CallR X (.builtin "repr") (rRepr X.K) := by
  intro pins s σ H xs us Q I r h
  obtain ⟨x, d, rfl, hd, sh, nd, dp, sz, q⟩ := h
  obtain ⟨u, rfl, r1⟩ := vals1 r
  obtain ⟨as, rd⟩ := Dp.reads I d x u hd r1
  have room := rm.units
  have fin : ∀ (s' : Shared) (tk : Tok), Inv X pins σ H s' → EP X pins σ Q (.str d.shown tk) s' := fun s' tk J => ⟨.str d.shown, H, J, ⟨tk, rfl⟩, q⟩
  have intsz : ∀ i : Int, d = .int i → i.natAbs.log2 < 1920 := fun i e => by
    subst e
    simpa [PyData.showable] using sh
  cases hd with
  | non =>
    cases r1
    rw [PyData.shown_none] at q
    exact PySem.P.repr_of_none ⟨.str _, H, I.tok _, ⟨_, rfl⟩, q⟩
  | bl b =>
    cases r1
    rw [PyData.shown_bool] at q
    exact PySem.P.repr_of_bool ⟨.str _, H, I.tok _, ⟨_, rfl⟩, by cases b <;> exact q⟩
  | int i =>
    obtain ⟨t, rfl⟩ := r1
    rw [PyData.shown_int] at q
    exact PySem.P.repr_of_int (intsz i rfl) ⟨.str _, H, I.tok _, ⟨_, rfl⟩, q⟩
  | str z =>
    obtain ⟨t, rfl⟩ := r1
    rw [PyData.shown_str] at q sz
    exact PySem.P.repr_of_str ⟨.str _, H, I.tok _, ⟨_, rfl⟩, q⟩ sz
  | lst _ _ =>
    cases r1
    exact repr_of_reads' rd sh (fun z => by rw [nd] at z; cases z) gd (by omega) (fun _ _ z => z) (fun h' u tk keep => fin _ _ (I.kept (t' := tk) keep)) sz
  | tup _ _ =>
    cases r1
    exact repr_of_reads' rd sh (fun z => by rw [nd] at z; cases z) gd (by omega) (fun _ _ z => z) (fun h' u tk keep => fin _ _ (I.kept (t' := tk) keep)) sz
end

/-! ### str(o), o an own object with its own __str__ -/
section
variable {X : Cx} {CX : CXT} {k : Nat} {f C : Addr} {fd : FuncData} {ps : List Str} {sp : Sp} {E : XK}
theorem in1_gd {A : Around} (h : A.guards = some []) : A.in1.guards = some [] := h
def rStrO (C : Addr) (sp : Sp) (E : XK) : List V → Hp → VK → Prop := fun xs H Q => ∃ a dx fs, xs = [.ref a] ∧ H a = some (.ins C dx fs) ∧ sp [.ref a] H (fun v H' => ∃ z, v = .str z ∧ Q (.str z) H') E
theorem call_strO (F : Gd X.prog X.w X.K X.mg X.base CX k f fd ps sp) (rm : Room (k + 2) X.A) (gd : X.A.guards = some []) (hs : PySem.W.findIn X.K (.ref C) "__str__" = some (some (.ref f))) (hf : PySem.W.isFn X.K (.ref f) = true)
    (hb : Binds X.K fd ps []) (hx : Passes CX X E) : CallR X (.type "str") (rStrO C sp E) := by
  intro pins s σ H xs us Q I r h
  obtain ⟨a, dx, fs, rfl, ea, q⟩ := h
  obtain ⟨u, rfl, r1⟩ := vals1 r
  obtain rfl : u = Value.ref a := r1
  obtain ⟨mA, J, _⟩ := ins_get I.hok ea
  obtain ⟨od, J, _⟩ := J.look
  have room := rm.units
  refine PySem.W.kso_call (by show X.A.units + 1 + 1 < cLine; omega) I.kIn J hs hf ?_
  have r2 : Vals [V.ref a] [Value.ref a] := .cons rfl .nil
  have bt := bind_pos (dvs := []) (vs := [V.ref a]) F hb .nil I.kIn r2 q
  refine wpAny_mono (run_at (us := [.ref a]) F rm.in1.in1 (in1_gd (in1_gd gd)) I.env0.in1.in1 (fun e s' hq => hx pins σ H s e s' I hq) I bt r2 q) (fun v s' hv => ?_) fun _ _ z => z
  obtain ⟨z, H', J', rz, y, ey, q'⟩ := hv
  subst ey
  obtain ⟨t, rfl⟩ := rz
  exact ⟨.str y, H', J', ⟨t, rfl⟩, q'⟩

/-! ### == and != by an own __eq__ -/
theorem ne_bound {M : Model} {A : Around} {W : Value → Shared → Prop} {s : Shared} {K : PySem.W.Frag} {x C : Addr} {ox : Obj} {od : Option Obj} {args : List Value} {Q : Option Value → Shared → Prop} (kin : K.In s.heap) (J : PySem.W.InstAt s.heap x ox C od)
    (hs : PySem.W.findIn K (.ref C) "__ne__" = some (some (.builtin "object.__ne__"))) (h : wpAny M A (call (.builtin "object.__ne__") (.ref x :: args)) (fun v => Q (some v)) W s) :
    wpAny M A (callSpecialIfBound? (.ref x) "__ne__" args) Q W s := by
  simp only [callSpecialIfBound?, bindSpecialIfBound?]
  refine wpAny_holding (wpAny_bind (wpAny_bind (wpAny_bind (J.type.here ((PySem.W.looks_findIn kin hs).here ?_)))))
  refine wpAny_bind (wpAny_askSetting (wpAny_ite ?_))
  have last : wpAny M A (call (.builtin "object.__ne__") ([.ref x] ++ args) >>= fun v => pure (some v)) Q W s :=
    wpAny_bind (wpAny_mono h (fun v s' z => wpAny_pure z) fun _ _ z => z)
  split
  · exact wpAny_bind (wpAny_of_eq (F.cmp_object.ne.bind _) (wpAny_pure (by exact last)))
  · exact wpAny_tryCatch (wpAny_bind (wpAny_of_eq (F.cmp_object.ne.bind _) (wpAny_pure (by exact last))))
theorem ne_own {prog : Program} {w : World} {A : Around} {W : Value → Shared → Prop} {s : Shared} {K : PySem.W.Frag} {x C f : Addr} {ox : Obj} {od : Option Obj} {b tb : Value} {Q : Value → Shared → Prop} (hu : A.units + 1 < cLine) (kin : K.In s.heap) (J : PySem.W.InstAt s.heap x ox C od)
    (hb : PySem.W.Looks (model prog w) s.heap (typeOf b) tb) (hn : PySem.W.notFirst K C tb = true) (hm : PySem.W.mroIn K C (.type "object") = some true)
    (hs : PySem.W.findIn K (.ref C) "__ne__" = some (some (.builtin "object.__ne__"))) (he : PySem.W.findIn K (.ref C) "__eq__" = some (some (.ref f))) (hf : PySem.W.isFn K (.ref f) = true)
    (h : wpAny (model prog w) A.in1 (call (.ref f) [.ref x, b]) (fun v s' => ∃ c, v = .bool c ∧ Q (.bool (!c)) s') W s) : wpAny (model prog w) A (richCompare .NotEq (.ref x) b) Q W s := by
  have one : wpAny (model prog w) A (tryCompare (.ref x) "__ne__" b) (fun r s' => ∃ v, r = some v ∧ Q v s') W s := by
    unfold tryCompare
    refine wpAny_bind (ne_bound kin J hs (wpAny_call (codeAny_call_builtin F.cmp_object.ne.plain F.cmpEntry_ne
      (PySem.W.check_slot F.cmpKind_ne F.cmpSplit_ne (J.type.andThen (PySem.W.looks_mroIn kin hm)) (F.cmpArgs_ne _ _) ?_))))
    show wpAny _ _ (Builtin.«object.__ne__» ⟨[.ref x, b], []⟩) _ _ s
    unfold Builtin.«object.__ne__»
    refine wpAny_bind (m := slotArgs "__ne__" 1 _) (wpAny_pure ?_)
    refine wpAny_bind (wpAny_cRoomFor (by show A.units + 1 < cLine; omega) ?_)
    refine wpAny_bind (m := callSpecialIfBound? (.ref x) (Str.ofString "__eq__") [b]) (PySem.W.ifBound_K kin J he hf (wpAny_mono h (fun v s' hv => ?_) fun _ _ z => z))
    obtain ⟨c, rfl, q⟩ := hv
    refine wpAny_bind (wpAny_truthy_bool ?_)
    exact wpAny_pure (wpAny_pure ⟨_, rfl, q⟩)
  unfold richCompare
  simp only [oneThing_ref]
  refine wpAny_holding (wpAny_bind (wpAny_cRoomFor (by omega) ?_))
  refine wpAny_bind (J.type.here (wpAny_bind (hb.here ?_)))
  split
  · rename_i q
    have e : PySem.W.subIn K tb (.ref C) = some false := by
      rcases Bool.or_eq_true_iff.mp hn with e | e
      · rw [beq_iff_eq.mp e] at q
        simp at q
      · exact beq_iff_eq.mp e
    refine wpAny_bind ((PySem.W.looks_subIn kin e).here ?_)
    simp only [Bool.false_eq_true, if_false]
    refine wpAny_bind (m := tryCompare (.ref x) _ b) (wpAny_mono one (fun r s' z => ?_) fun _ _ e => e)
    obtain ⟨v, rfl, hq⟩ := z
    exact wpAny_pure hq
  · refine wpAny_bind (wpAny_pure ?_)
    simp only [Bool.false_eq_true, if_false]
    refine wpAny_bind (m := tryCompare (.ref x) _ b) (wpAny_mono one (fun r s' z => ?_) fun _ _ e => e)
    obtain ⟨v, rfl, hq⟩ := z
    exact wpAny_pure hq

/-- o == y, o != y: the own __eq__ answers (y: the same class, or a thing whose type is no class below it) -/
def rEqO (K : PySem.W.Frag) (C : Addr) (neg : Bool) (sp : Sp) (E : XK) : R2 := fun x y H Q => ∃ a dx fs t, x = .ref a ∧ H a = some (.ins C dx fs) ∧ TyX K H y t ∧ PySem.W.notFirst K C t = true ∧
  sp [.ref a, y] H (fun v H' => ∃ c, v = .bl c ∧ Q (.bl (if neg then !c else c)) H') E
theorem op_eqO (F : Gd X.prog X.w X.K X.mg X.base CX k f fd ps sp) (rm : Room k X.A) (gd : X.A.guards = some []) (hs : PySem.W.findIn X.K (.ref C) "__eq__" = some (some (.ref f))) (hf : PySem.W.isFn X.K (.ref f) = true)
    (hb : Binds X.K fd ps []) (hx : Passes CX X E) : OpR X (compareOp .Eq) (rEqO X.K C false sp E) := by
  intro pins s σ H x y v u Q I rx ry h
  obtain ⟨a, dx, fs, t, rfl, ea, ty, nf, q⟩ := h
  obtain rfl : v = Value.ref a := rx
  obtain ⟨mA, J, _⟩ := ins_get I.hok ea
  obtain ⟨od, J, _⟩ := J.look
  obtain ⟨m, fr⟩ := I.fr
  obtain ⟨_, Z, pz, _⟩ := kit_of I ry ty
  have r2 : Vals [V.ref a, y] [Value.ref a, u] := .cons rfl (.cons ry .nil)
  have bt := bind_pos (dvs := []) (vs := [V.ref a, y]) F hb .nil I.kIn r2 q
  refine PySem.W.cmp_K (op := .Eq) rm.units0 fr I.ok.mod.kin J (Z.ty _ _ I.kIn pz) nf hs hf ?_
  refine wpAny_mono (run_g (us := [.ref a, u]) F rm gd hx I bt r2 q) (fun v s' hv => ?_) fun _ _ z => z
  obtain ⟨z, H', J', rz, c, ez, q'⟩ := hv
  subst ez
  obtain rfl : v = Value.bool c := rz
  exact ⟨.bl c, H', J', rfl, q'⟩
theorem op_neO (F : Gd X.prog X.w X.K X.mg X.base CX k f fd ps sp) (rm : Room (k + 1) X.A) (gd : X.A.guards = some []) (hs : PySem.W.findIn X.K (.ref C) "__eq__" = some (some (.ref f))) (hf : PySem.W.isFn X.K (.ref f) = true)
    (hn : PySem.W.findIn X.K (.ref C) "__ne__" = some (some (.builtin "object.__ne__"))) (hm : PySem.W.mroIn X.K C (.type "object") = some true)
    (hb : Binds X.K fd ps []) (hx : Passes CX X E) : OpR X (compareOp .NotEq) (rEqO X.K C true sp E) := by
  intro pins s σ H x y v u Q I rx ry h
  obtain ⟨a, dx, fs, t, rfl, ea, ty, nf, q⟩ := h
  obtain rfl : v = Value.ref a := rx
  obtain ⟨mA, J, _⟩ := ins_get I.hok ea
  obtain ⟨od, J, _⟩ := J.look
  obtain ⟨_, Z, pz, _⟩ := kit_of I ry ty
  have r2 : Vals [V.ref a, y] [Value.ref a, u] := .cons rfl (.cons ry .nil)
  have bt := bind_pos (dvs := []) (vs := [V.ref a, y]) F hb .nil I.kIn r2 q
  have room := rm.units
  refine ne_own (by omega) I.kIn J (Z.ty _ _ I.kIn pz) nf hm hn hs hf ?_
  refine wpAny_mono (run_at (us := [.ref a, u]) F rm.in1 (in1_gd gd) I.env0.in1 (fun e s' hq => hx pins σ H s e s' I hq) I bt r2 q) (fun v s' hv => ?_) fun _ _ z => z
  obtain ⟨z, H', J', rz, c, ez, q'⟩ := hv
  subst ez
  obtain rfl : v = Value.bool c := rz
  exact ⟨c, rfl, .bl (!c), H', J', rfl, q'⟩
end
end KG

set_option Elab.async false
set_option linter.all false
set_option maxRecDepth 100000
set_option maxHeartbeats 4000000
/-! KS: defs, methods and classes by name; the readings' steps, one lemma each, for walk_at "go". -/
namespace KG
open PySem PySem.Spec PyProof.Rows L2

/-! ### defs by name -/
/-- how the arguments of a def of the text bind, by place -/
def BindOk (x qual : Str) (st : Stmt) (ps : List Str) : Prop := ∀ (kV doc pm : Value) (an : Option Addr) (cdv ct : Value) (us : List Value), us.length = ps.length →
  bindArgs (PySem.W.fnOf x qual (defArgs st) (defBody st) (defScope st) .none kV doc pm an cdv ct) ⟨us, []⟩ = pure (ps.zip us)
/-- .. n by place, then by keywords, is: the keywords' places -/
def BindOkK (x qual : Str) (st : Stmt) (ps : List Str) (n : Nat) (ks : List Str) (is : List Nat) : Prop := ∀ (kV doc pm : Value) (an : Option Addr) (cdv ct : Value) (us ws : List Value), us.length = n → ws.length = ks.length →
  bindArgs (PySem.W.fnOf x qual (defArgs st) (defBody st) (defScope st) .none kV doc pm an cdv ct) ⟨us, ks.zip ws⟩ = pure (ps.zip (us ++ sel is ws))
/-- the def st stands under the name x -/
structure DefAt (K : PySem.W.Frag) (mg : Str → Option Value) (x : Str) (st : Stmt) (ps : List Str) : Prop where
  ex : ∃ f fd, mg x = some (.ref f) ∧ Fun K x x st f fd ∧ Binds K fd ps []
theorem defAt_of {K : PySem.W.Frag} {h : Heap} {mg : Str → Option Value} (X : K.In h) (G : h.Ns mainGlobals mg) {x : Str} {st : Stmt} {ps : List Str} {f : Addr} {oc kV doc pm cdv ct : Value} {od an : Option Addr} {sl : Array (Option Value)}
    (a : PySem.W.nsIn K mainGlobals x = some (some (.ref f))) (l : K.lookup f = some ⟨oc, od, .func (PySem.W.fnOf x x (defArgs st) (defBody st) (defScope st) .none kV doc pm an cdv ct), sl⟩)
    (c : PySem.W.codeIn K cdv x = true) (k : PySem.W.keepIn K (.ref f) = true) (b : BindOk x x st ps) : DefAt K mg x st ps :=
  have F := fun_mk (st := st) l c k
  ⟨⟨f, _, PySem.W.mg_of X G a, F, F.binds b⟩⟩
/-- the method st of the class at C -/
structure MetAt (K : PySem.W.Frag) (C : Addr) (m qual : Str) (st : Stmt) (ps : List Str) (f : Addr) : Prop where
  ex : ∃ fd, Meth K C m f ∧ Fun K m qual st f fd ∧ Binds K fd ps []
theorem metAt_of {K : PySem.W.Frag} {C : Addr} {m qual : Str} {st : Stmt} {ps : List Str} {f : Addr} {oc kV doc pm cdv ct : Value} {od an : Option Addr} {sl : Array (Option Value)}
    (a : PySem.W.findIn K (.ref C) m = some (some (.ref f))) (i : PySem.W.isFn K (.ref f) = true) (l : K.lookup f = some ⟨oc, od, .func (PySem.W.fnOf m qual (defArgs st) (defBody st) (defScope st) .none kV doc pm an cdv ct), sl⟩)
    (c : PySem.W.codeIn K cdv qual = true) (k : PySem.W.keepIn K (.ref f) = true) (b : BindOk m qual st ps) : MetAt K C m qual st ps f :=
  have F := fun_mk (st := st) l c k
  ⟨⟨_, ⟨a, i, k⟩, F, F.binds b⟩⟩
/-- the def st, promised sp, nothing raised -/
def Cal (P : Program) (w : World) (K : PySem.W.Frag) (mg : Str → Option Value) (base : Heap) (j : Nat) (x : Str) (sp : Sp) : Prop :=
  ∃ f fd ps, mg x = some (.ref f) ∧ PySem.W.keepIn K (.ref f) = true ∧ Binds K fd ps [] ∧ Gd P w K mg base CX0 j f fd ps sp
def Met (P : Program) (w : World) (K : PySem.W.Frag) (mg : Str → Option Value) (base : Heap) (j : Nat) (C : Addr) (m : Str) (f : Addr) (sp : Sp) : Prop :=
  ∃ fd ps, Meth K C m f ∧ Binds K fd ps [] ∧ Gd P w K mg base CX0 j f fd ps sp
def MetK (P : Program) (w : World) (K : PySem.W.Frag) (mg : Str → Option Value) (base : Heap) (j : Nat) (C : Addr) (m : Str) (f : Addr) (ks : List Str) (is : List Nat) (sp : Sp) : Prop :=
  ∃ fd ps, Meth K C m f ∧ KBn K fd ps 1 ks (fun us ws => us ++ sel is ws) (fun vs zs => vs ++ sel is zs) ∧ Gd P w K mg base CX0 j f fd ps sp
section
variable {P : Program} {w : World} {K : PySem.W.Frag} {mg : Str → Option Value} {base : Heap} {k : Nat} {x m qual : Str} {st : Stmt} {ps N : List Str} {sp : Sp} {C f : Addr}
/-- a def by its body -/
theorem DefAt.cal (D : DefAt K mg x st ps) (sc : FnScope N ps (defScope st)) (len : ∀ vs H Q E, sp vs H Q E → vs.length = ps.length)
    (inner : ∀ (f : Addr) (cdv : Value) (A : Around) (outer : List Env) (s : Shared) (H : Hp) (vs : List V) (Q : VK) (E : XK),
      Room k (A.deeper (envOfC x (defScope st) s.heap.objs.size f cdv)) → (A.deeper (envOfC x (defScope st) s.heap.objs.size f cdv)).guards = some [] → sp vs H Q E →
      ∃ t, PSs (cxOf CX0 P w K mg base N x (defScope st) f cdv A outer s H E).nox (defBody st) t ∧ t { nx := fun _ H' => Q .non H', rt := Q } (start N vs) H) :
    Cal P w K mg base (k + 1) x sp := by
  obtain ⟨f, fd, a, F, b⟩ := D.ex
  exact ⟨f, fd, ps, a, F.kp, b, gd0 F sc len (inner f)⟩
theorem MetAt.gd (D : MetAt K C m qual st ps f) (sc : FnScope N ps (defScope st)) (len : ∀ vs H Q E, sp vs H Q E → vs.length = ps.length)
    (inner : ∀ (cdv : Value) (A : Around) (outer : List Env) (s : Shared) (H : Hp) (vs : List V) (Q : VK) (E : XK),
      Room k (A.deeper (envOfC qual (defScope st) s.heap.objs.size f cdv)) → (A.deeper (envOfC qual (defScope st) s.heap.objs.size f cdv)).guards = some [] → sp vs H Q E →
      ∃ t, PSs (cxOf CX0 P w K mg base N qual (defScope st) f cdv A outer s H E).nox (defBody st) t ∧ t { nx := fun _ H' => Q .non H', rt := Q } (start N vs) H) :
    ∃ fd, Meth K C m f ∧ Fun K m qual st f fd ∧ Binds K fd ps [] ∧ Gd P w K mg base CX0 (k + 1) f fd ps sp := by
  obtain ⟨fd, a, F, b⟩ := D.ex
  exact ⟨fd, a, F, b, gd0 F sc len inner⟩
end
section
variable {X : Cx} {j k : Nat} {x m qual : Str} {sp : Sp} {C f : Addr} {p pos apos : Pos} {e o : Expr} {es : List Expr} {kws : List Keyword} {ta te : TE} {t tk : TA} {ks : List Str} {is : List Nat} {pl : Sem Bool}
theorem pc (c : Cal X.prog X.w X.K X.mg X.base j x sp) (rm : Room k X.A) (hk : j ≤ k) (gd : X.A.guards = some []) (gl : Gl X x) (ha : PA X (e :: es) t)
    (hdb : (x == ("__debug__" : Str)) = false := by decide) (he : starEach (e :: es) X.env = (false, eval e X.env) :: starEach es X.env := by rfl) (hpl : (backTo pos (starEach es X.env)).any (·.1) = false := by rfl) :
    PE X (.Call (.Name x p) (e :: es) [] pos) (tCall sp [] E0 t) := by
  obtain ⟨f, fd, ps, a, kp, b, F⟩ := c
  exact pe_gcall F (rm.mono hk) gd gl a kp b .nil pass0 ha hdb he hpl
theorem pc0 (c : Cal X.prog X.w X.K X.mg X.base j x sp) (rm : Room k X.A) (hk : j ≤ k) (gd : X.A.guards = some []) (gl : Gl X x)
    (hdb : (x == ("__debug__" : Str)) = false := by decide) : PE X (.Call (.Name x p) [] [] pos) (tCall sp [] E0 tNil) := by
  obtain ⟨f, fd, ps, a, kp, b, F⟩ := c
  exact pe_gcall0 F (rm.mono hk) gd gl a kp b .nil pass0 hdb
theorem pm (c : Met X.prog X.w X.K X.mg X.base j C m f sp) (cl : Cls X.K C) (rm : Room k X.A) (hk : j ≤ k) (gd : X.A.guards = some []) (he : PE X o ta) (ha : PA X (e :: es) t)
    (hst : starEach (e :: es) X.env = (false, eval e X.env) :: starEach es X.env := by rfl) (hpl : (backTo pos (starEach es X.env)).any (·.1) = false := by rfl)
    (ht : eval (.Call (.Attribute o m apos) (e :: es) [] pos) X.env = (do
      let w ← eval o X.env
      standAt apos.atName
      let (g, a) ← holding [w] (getMethod w m pl)
      callWith pos g a (backTo pos (starEach (e :: es) X.env)) (backToKw pos (keywordEach [] X.env))) := by rfl) :
    PE X (.Call (.Attribute o m apos) (e :: es) [] pos) (tMeth C m sp [] E0 ta t) := by
  obtain ⟨fd, ps, hm, b, F⟩ := c
  exact pe_gmeth he cl hm F (rm.mono hk) gd b .nil pass0 ha hst hpl ht
theorem pm0 (c : Met X.prog X.w X.K X.mg X.base j C m f sp) (cl : Cls X.K C) (rm : Room k X.A) (hk : j ≤ k) (gd : X.A.guards = some []) (he : PE X o ta)
    (ht : eval (.Call (.Attribute o m apos) [] [] pos) X.env = (do
      let w ← eval o X.env
      standAt apos.atName
      let (g, a) ← holding [w] (getMethod w m pl)
      callWith pos g a (backTo pos (starEach [] X.env)) (backToKw pos (keywordEach [] X.env))) := by rfl) :
    PE X (.Call (.Attribute o m apos) [] [] pos) (tMeth C m sp [] E0 ta tNil) := by
  obtain ⟨fd, ps, hm, b, F⟩ := c
  exact pe_gmeth0 he cl hm F (rm.mono hk) gd b .nil pass0 ht
theorem pmK (c : MetK X.prog X.w X.K X.mg X.base j C m f ks is sp) (cl : Cls X.K C) (rm : Room k X.A) (hk : j ≤ k) (gd : X.A.guards = some []) (he : PE X o ta) (hkw : PK X kws tk)
    (hall : (backToKw pos (keywordEach kws X.env)).all (·.1.isSome) = true := by rfl) (hks : (backToKw pos (keywordEach kws X.env)).filterMap (·.1) = ks := by rfl)
    (hpl : ((backTo pos (starEach [] X.env)).any (·.1) || (backToKw pos (keywordEach kws X.env)).any (·.1.isNone)) = false := by rfl)
    (ht : eval (.Call (.Attribute o m apos) [] kws pos) X.env = (do
      let w ← eval o X.env
      standAt apos.atName
      let (g, a) ← holding [w] (getMethod w m pl)
      callWith pos g a (backTo pos (starEach [] X.env)) (backToKw pos (keywordEach kws X.env))) := by rfl) :
    PE X (.Call (.Attribute o m apos) [] kws pos) (tMethK C m ks.length sp (fun vs zs => vs ++ sel is zs) E0 ta tk) := by
  obtain ⟨fd, ps, hm, b, F⟩ := c
  exact pe_gmethK he cl hm F (rm.mono hk) gd b pass0 hkw hall hks hpl ht
end

/-! ### ways that meet behind a statement -/
def tMid (t u : TS) : TS := fun D σ H => ∃ M : L2.St → Hp → Prop, t { D with nx := M } σ H ∧ ∀ σ' H', M σ' H' → u D σ' H'
theorem pss_mid {X : Cx} {st : Stmt} {rest : List Stmt} {t u : TS} (h1 : PS X st t) (h2 : PSs X rest u) : PSs X (st :: rest) (tMid t u) := by
  refine ⟨fun pins s σ H D I h => ?_⟩
  obtain ⟨M, a, b⟩ := h
  refine wpAny_execs_cons (thn (h1.run pins s σ H { D with nx := M } I a) fun f s1 q => ?_)
  match f, q with
  | .next, ⟨σ', H', J, q⟩ => exact h2.run pins s1 σ' H' D J (b σ' H' q)
  | .ret v, q => exact q
  | .brk, q => exact q
  | .cont, q => exact q

/-! ### steps -/
/-- what a field's read, a field's store asks -/
def Fld (K : PySem.W.Frag) (f : Str) (x : V) (H : Hp) (Q : VK) : Prop := ∃ a C dx fs v, x = .ref a ∧ H a = some (.ins C dx fs) ∧ Cls K C ∧ NoAttr K C f ∧ fs.lookup f = some v ∧ Q v H
theorem fld {K : PySem.W.Frag} {f : Str} {a C dx : Addr} {fs : List (Str × V)} {v : V} {H : Hp} {Q : VK} (h : H a = some (.ins C dx fs)) (c : Cls K C) (n : NoAttr K C f) (l : fs.lookup f = some v) (q : Q v H) : Fld K f (.ref a) H Q := ⟨a, C, dx, fs, v, rfl, h, c, n, l, q⟩
def SFld (K : PySem.W.Frag) (f : Str) (y x : V) (H : Hp) (QH : Hp → Prop) : Prop := ∃ a C dx fs, x = .ref a ∧ H a = some (.ins C dx fs) ∧ Cls K C ∧ NoAttr K C f ∧ fs.length < 1000 ∧ QH (upd H a (.ins C dx (putF f y fs)))
/-- .. the heap behind it a letter -/
theorem sfld {K : PySem.W.Frag} {f : Str} {a C dx : Addr} {fs gs : List (Str × V)} {y : V} {H : Hp} {QH : Hp → Prop} (h : H a = some (.ins C dx fs)) (c : Cls K C) (n : NoAttr K C f) (l : fs.length < 1000) (e : putF f y fs = gs)
    (q : ∀ H' : Hp, H' a = some (.ins C dx gs) → (∀ b, b ≠ a → H' b = H b) → QH H') : SFld K f y (.ref a) H QH := ⟨a, C, dx, fs, rfl, h, c, n, l, q _ (by rw [← e]; exact upd_same) fun b nb => upd_ne nb⟩
/-- what the making of an instance asks -/
def Make (C : Addr) (sp : Sp) (args : V → List V) (E : XK) (H : Hp) (Q : VK) : Prop := ∀ x dx, H x = none → H dx = none → dx ≠ x → sp (args (.ref x)) (upd (upd H dx (.own x)) x (.ins C dx [])) (fun v H3 => v = .non ∧ Q (.ref x) H3) E
theorem make {C : Addr} {sp : Sp} {args : V → List V} {E : XK} {H : Hp} {Q : VK} (q : ∀ (x dx : Addr) (H' : Hp), H x = none → H' x = some (.ins C dx []) → Same H H' → sp (args (.ref x)) H' (fun v H3 => v = .non ∧ Q (.ref x) H3) E) : Make C sp args E H Q :=
  fun x dx nx ndx _ => q x dx _ nx upd_same fun b o e => by
    rw [upd_ne (ne_of_none e nx), upd_ne (ne_of_none e ndx)]
    exact e
/-- a dict's display, store and read -/
def DAll (p : Addr) (ps : List (V × V)) (Q : VK) (H : Hp) : Prop := H p = some (.dK []) ∧ ∃ kvs : List (Key × V), ps = kvs.map (fun kv => (kV kv.1, kv.2)) ∧ kvs.length ≤ 15 ∧ Q (.ref p) (upd H p (.dK (mergeK [] kvs)))
theorem dall {p : Addr} {ps : List (V × V)} {Q : VK} {H : Hp} {ks : List (Key × V)} (kvs : List (Key × V)) (h : H p = some (.dK [])) (e : ps = kvs.map (fun kv => (kV kv.1, kv.2))) (l : kvs.length ≤ 15) (m : mergeK [] kvs = ks)
    (q : ∀ H' : Hp, H' p = some (.dK ks) → (∀ b, b ≠ p → H' b = H b) → Q (.ref p) H') : DAll p ps Q H := ⟨h, kvs, e, l, q _ (by rw [← m]; exact upd_same) fun b nb => upd_ne nb⟩
def DPutQ (v x y : V) (H : Hp) (QH : Hp → Prop) : Prop := ∃ a H4, x = .ref a ∧ DPut H a y v H4 ∧ QH H4
theorem dput {v : V} {p : Addr} {H : Hp} {QH : Hp → Prop} {kvs ks : List (Key × V)} (k : Key) (h : H p = some (.dK kvs)) (l : kvs.length < sizeLine) (m : putK kvs k v = ks)
    (q : ∀ H' : Hp, H' p = some (.dK ks) → (∀ b, b ≠ p → H' b = H b) → QH H') : DPutQ v (.ref p) (kV k) H QH := ⟨p, _, rfl, DPut.k h l, q _ (by rw [← m]; exact upd_same) fun b nb => upd_ne nb⟩
def DGetQ (x y : V) (H : Hp) (Q : VK) : Prop := ∃ a v, x = .ref a ∧ DGet H a y (some v) ∧ Q v H
theorem dget {v : V} {p : Addr} {H : Hp} {Q : VK} {kvs : List (Key × V)} (k : Key) (h : H p = some (.dK kvs)) (e : valV kvs k = some v) (q : Q v H) : DGetQ (.ref p) (kV k) H Q := ⟨p, v, rfl, by rw [← e]; exact DGet.k h, q⟩
/-- what a for asks -/
def Loop (J : It) (g : TG) (tb : TS) (D : Ends) (σ : L2.St) (H : Hp) : Prop := ∃ W : Nat → Nat → L2.St → Hp → Prop, (∃ m, W 0 m σ H) ∧ ∀ i m σ H, W i m σ H →
  (J.stop i H ∧ D.nx σ H) ∨ (J.go i H ∧ ∃ N : L2.St → Hp → Prop, (∀ σ' H', N σ' H' → ∃ m', m' < m ∧ W (i + 1) m' σ' H') ∧ ∀ x H', J.yld i H x H' → g x σ H' fun σ2 H2 => tb { D with nx := N, ct := N, bk := D.nx } σ2 H2)
def OverT (K : PySem.W.Frag) (x : V) (H : Hp) (R : It → Hp → Prop) : Prop := ∃ a, x = .ref a ∧ (∃ xs, SqT K H a xs) ∧ R (Itt K a) H
theorem over_t {K : PySem.W.Frag} {a : Addr} {xs : List V} {H : Hp} {R : It → Hp → Prop} (h : SqT K H a xs) (q : R (Itt K a) H) : OverT K (.ref a) H R := ⟨a, rfl, ⟨xs, h⟩, q⟩
def OverL (K : PySem.W.Frag) (x : V) (H : Hp) (R : It → Hp → Prop) : Prop := ∃ a, x = .ref a ∧ (∃ xs, SqL K H a xs) ∧ R (Itl K a) H
theorem over_l {K : PySem.W.Frag} {a : Addr} {xs : List V} {H : Hp} {R : It → Hp → Prop} (h : SqL K H a xs) (q : R (Itl K a) H) : OverL K (.ref a) H R := ⟨a, rfl, ⟨xs, h⟩, q⟩
def OverR (vs : List V) (H : Hp) (R : It → Hp → Prop) : Prop := ∃ j : Int, vs = [.int j] ∧ -(2 ^ 62) ≤ j ∧ j < 2 ^ 62 ∧ R (Itr 0 j.toNat) H
theorem over_r {j : Int} {H : Hp} {R : It → Hp → Prop} (h1 : -(2 ^ 62) ≤ j) (h2 : j < 2 ^ 62) (q : R (Itr 0 j.toNat) H) : OverR [.int j] H R := ⟨j, rfl, h1, h2, q⟩
/-- what a method's call asks of the object -/
def Mth (C : Addr) (m : Str) (x : V) (H : Hp) (B : Prop) : Prop := ∃ a dx fs, x = .ref a ∧ H a = some (.ins C dx fs) ∧ fs.lookup m = none ∧ B
theorem mth {C a dx : Addr} {m : Str} {fs : List (Str × V)} {H : Hp} {B : Prop} (h : H a = some (.ins C dx fs)) (l : fs.lookup m = none) (q : B) : Mth C m (.ref a) H B := ⟨a, dx, fs, rfl, h, l, q⟩
/-- a tuple of the written part -/
def KTup (K : PySem.W.Frag) (a : Addr) (xs : List V) : Prop := ∃ (o : Obj) (its : Array Value) (n : Nat), K.lookup a = some o ∧ o.cls = .type "tuple" ∧ o.data = .seq its n ∧ its.size ≤ sizeLine ∧ Vals xs its.toList
theorem KTup.t {K : PySem.W.Frag} {a : Addr} {xs : List V} (h : KTup K a xs) (H : Hp) : SqT K H a xs := .inr h
/-- what a display asks: a new object -/
def New (o : List V → HO) (Q : VK) (xs : List V) (H : Hp) : Prop := xs.length ≤ sizeLine ∧ ∀ p, H p = none → Q (.ref p) (upd H p (o xs))
/-- .. the heap behind it a letter -/
theorem new {o : List V → HO} {Q : VK} {xs : List V} {H : Hp} (h : xs.length ≤ sizeLine) (q : ∀ (p : Addr) (H' : Hp), H p = none → H' p = some (o xs) → Same H H' → Q (.ref p) H') : New o Q xs H :=
  ⟨h, fun p np => q p _ np upd_same fun b u e => by rw [upd_ne (ne_of_none e np)]; exact e⟩
section
variable {σ : L2.St} {H : Hp} {Q : VK} {v : V} {ta tb te : TE} {t u : TS} {D : Ends} {i j : Int} {tc : TT} {QB : Bool → Hp → Prop} {QA : List V → Hp → Prop} {tr : TA} {r : R2}
theorem w_var {n : Nat} (h : σ[n]? = some (some v)) (q : Q v H) : tVar n σ H Q := ⟨v, h, q⟩
theorem w_c (q : Q v H) : tC v σ H Q := q
theorem w_op (q : ta σ H fun x H1 => tb σ H1 fun y H2 => r x y H2 Q) : tOp r ta tb σ H Q := q
theorem w_un {r : V → Hp → VK → Prop} (q : ta σ H fun x H1 => r x H1 Q) : tUn r ta σ H Q := q
theorem w_add (q : Q (.int (i + j)) H) : rI0 (fun i j => .int (i + j)) (.int i) (.int j) H Q := ⟨i, j, rfl, rfl, q⟩
theorem w_sub (q : Q (.int (i - j)) H) : rI0 (fun i j => .int (i - j)) (.int i) (.int j) H Q := ⟨i, j, rfl, rfl, q⟩
theorem w_mul (c : CMul i j) (q : Q (.int (i * j)) H) : rI CMul (fun i j => .int (i * j)) (.int i) (.int j) H Q := ⟨i, j, rfl, rfl, c, q⟩
theorem w_mod (c : 0 < j) (q : Q (.int (i % j)) H) : rI (fun _ j => 0 < j) (fun i j => .int (i % j)) (.int i) (.int j) H Q := ⟨i, j, rfl, rfl, c, q⟩
theorem w_fdiv (c : CDiv i j) (q : Q (.int (i / j)) H) : rI CDiv (fun i j => .int (i / j)) (.int i) (.int j) H Q := ⟨i, j, rfl, rfl, c, q⟩
theorem w_pow (c : CPow i j) (q : Q (.int (i ^ j.toNat)) H) : rI CPow (fun i j => .int (i ^ j.toNat)) (.int i) (.int j) H Q := ⟨i, j, rfl, rfl, c, q⟩
theorem w_and (q : Q (.int (Builtin.bitAnd i j)) H) : rI0 (fun i j => .int (Builtin.bitAnd i j)) (.int i) (.int j) H Q := ⟨i, j, rfl, rfl, q⟩
theorem w_or (q : Q (.int (Builtin.bitOr i j)) H) : rI0 (fun i j => .int (Builtin.bitOr i j)) (.int i) (.int j) H Q := ⟨i, j, rfl, rfl, q⟩
theorem w_xor (q : Q (.int (Builtin.bitXor i j)) H) : rI0 (fun i j => .int (Builtin.bitXor i j)) (.int i) (.int j) H Q := ⟨i, j, rfl, rfl, q⟩
theorem w_gt (q : Q (.bl (decide (j < i))) H) : rI0 (fun i j => .bl (decide (j < i))) (.int i) (.int j) H Q := ⟨i, j, rfl, rfl, q⟩
theorem w_lt (q : Q (.bl (decide (i < j))) H) : rI0 (fun i j => .bl (decide (i < j))) (.int i) (.int j) H Q := ⟨i, j, rfl, rfl, q⟩
theorem w_ge (q : Q (.bl (decide (j ≤ i))) H) : rI0 (fun i j => .bl (decide (j ≤ i))) (.int i) (.int j) H Q := ⟨i, j, rfl, rfl, q⟩
theorem w_le (q : Q (.bl (decide (i ≤ j))) H) : rI0 (fun i j => .bl (decide (i ≤ j))) (.int i) (.int j) H Q := ⟨i, j, rfl, rfl, q⟩
theorem w_eq {x y : V} (s : scal x y = true) (q : Q (.bl (decide (x = y))) H) : rEq x y H Q := ⟨s, q⟩
theorem w_ne {x y : V} (s : scal x y = true) (q : Q (.bl (!decide (x = y))) H) : rNe x y H Q := ⟨s, q⟩
theorem w_test (q : te σ H fun x H' => ∃ k, x = .bl k ∧ QB k H') : tTest te σ H QB := q
theorem w_tB (q : te σ H fun x H' => ∃ k, x = .bl k ∧ QB k H') : tB te σ H QB := q
theorem w_bl {b : Bool} {B : Bool → Prop} (q : B b) : ∃ k, V.bl b = .bl k ∧ B k := ⟨b, rfl, q⟩
theorem w_seq (q : t { D with nx := u D } σ H) : tSeq t u D σ H := q
theorem w_ret (q : te σ H D.rt) : tRet te D σ H := q
theorem w_next (q : D.nx σ H) : tNext D σ H := q
theorem w_asg {g : TG} (q : te σ H fun x H1 => g x σ H1 D.nx) : tAsg te g D σ H := q
theorem w_gname {n : Nat} {QS : L2.St → Hp → Prop} (q : QS (σ.set n (some v)) H) : gName n v σ H QS := q
theorem w_ifs (q : tc σ H fun b H1 => if b = true then t D σ H1 else u D σ H1) : tIfS tc t u D σ H := q
theorem w_ifx (q : tc σ H fun c H1 => if c = true then ta σ H1 Q else tb σ H1 Q) : tIf tc ta tb σ H Q := q
theorem w_nil (q : QA [] H) : tNil σ H QA := q
theorem w_cons (q : ta σ H fun x H1 => tr σ H1 fun xs H2 => QA (x :: xs) H2) : tCons ta tr σ H QA := q
theorem w_tup (q : tr σ H fun xs H1 => New HO.tup Q xs H1) : tTup tr σ H Q := q
theorem w_lst (q : tr σ H fun xs H1 => New HO.lst Q xs H1) : tLst tr σ H Q := q
theorem w_and2 {tt uu : TT} (q : tt σ H fun c H1 => if c = true then uu σ H1 QB else QB false H1) : tAnd tt uu σ H QB := q
theorem w_or2 {tt uu : TT} (q : tt σ H fun c H1 => if c = true then QB true H1 else uu σ H1 QB) : tOr tt uu σ H QB := q
theorem w_not {tt : TT} (q : tt σ H fun c H1 => QB (!c) H1) : tNot tt σ H QB := q
theorem w_cb {r : List V → Hp → VK → Prop} (q : tr σ H fun vs H1 => r vs H1 Q) : tCB r tr σ H Q := q
theorem w_call {sp : Sp} {dvs : List V} {E : XK} (q : tr σ H fun vs H1 => sp (vs ++ dvs) H1 Q E) : tCall sp dvs E tr σ H Q := q
theorem w_ixL {K : PySem.W.Frag} {p : Addr} {xs : List V} (h : SqL K H p xs) (a : atI xs i = some v) (q : Q v H) : rIxL K (.ref p) (.int i) H Q := ⟨p, xs, i, v, rfl, rfl, h, a, q⟩
theorem w_ixT {K : PySem.W.Frag} {p : Addr} {xs : List V} (h : SqT K H p xs) (a : atI xs i = some v) (q : Q v H) : rIxT K (.ref p) (.int i) H Q := ⟨p, xs, i, v, rfl, rfl, h, a, q⟩
theorem w_gsub {to ti : TE} {ts : TSet} {QS : L2.St → Hp → Prop} (q : to σ H fun o H1 => ti σ H1 fun i H2 => ts o i v H2 fun H3 => QS σ H3) : gSub to ti ts v σ H QS := q
theorem w_setL {p : Addr} {xs : List V} {n : Nat} {QH : Hp → Prop} (h : H p = some (.lst xs)) (a : ixN xs.length i = some n) (q : QH (upd H p (.lst (xs.set n v)))) : rSetL (.ref p) (.int i) v H QH := ⟨p, xs, i, n, rfl, rfl, h, a, q⟩
/-- the store, the heap behind it a letter -/
theorem w_setG {p : Addr} {xs ys : List V} {n : Nat} {QH : Hp → Prop} (h : H p = some (.lst xs)) (a : ixN xs.length i = some n) (e : xs.set n v = ys)
    (q : ∀ H' : Hp, H' p = some (.lst ys) → (∀ b, b ≠ p → H' b = H b) → QH H') : rSetL (.ref p) (.int i) v H QH := ⟨p, xs, i, n, rfl, rfl, h, a, q _ (by rw [← e]; exact upd_same) fun b nb => upd_ne nb⟩
theorem w_fld {K : PySem.W.Frag} {f : Str} (q : ta σ H fun x H1 => Fld K f x H1 Q) : tFld K ta f σ H Q := q
theorem w_sfld {K : PySem.W.Frag} {tv : TE} {f : Str} (q : tv σ H fun y H1 => ta σ H1 fun x H2 => SFld K f y x H2 (fun H3 => D.nx σ H3)) : sFld K ta tv f D σ H := q
theorem w_par {m n : Nat} {ta : TA} (q : ta σ H fun vs H1 => ∃ v w, vs = [v, w] ∧ D.nx ((σ.set m (some v)).set n (some w)) H1) : tPar m n ta D σ H := q
theorem w_andV {ta tb : TE} (q : ta σ H fun x H1 => ∃ c, x = .bl c ∧ if c = true then tb σ H1 Q else Q (.bl false) H1) : tAndV ta tb σ H Q := q
theorem w_orV {ta tb : TE} (q : ta σ H fun x H1 => ∃ c, x = .bl c ∧ if c = true then Q (.bl true) H1 else tb σ H1 Q) : tOrV ta tb σ H Q := q
theorem w_mid (M : L2.St → Hp → Prop) (a : t { D with nx := M } σ H) (b : ∀ σ' H', M σ' H' → u D σ' H') : tMid t u D σ H := ⟨M, a, b⟩
theorem w_in {K : PySem.W.Frag} {neg : Bool} {x : V} {p : Addr} {xs : List V} (h : SqL K H p xs ∨ SqT K H p xs) (f : flatV x = true) (fs : xs.all flatV = true) (q : Q (.bl (if neg then !inV x xs else inV x xs)) H) : rIn K neg x (.ref p) H Q := ⟨p, xs, rfl, h, f, fs, q⟩
theorem w_kd {K : PySem.W.Frag} {w : World} {p : Addr} {z : Str} (h : KDct K w p z v) (q : Q v H) : rIxD K w (.ref p) (.str z) H Q := ⟨p, z, v, rfl, rfl, h, q⟩
theorem w_meth {C : Addr} {m : Str} {sp : Sp} {dvs : List V} {E : XK} {tr : TA} (q : ta σ H fun x H1 => Mth C m x H1 (tr σ H1 fun vs H2 => sp (x :: (vs ++ dvs)) H2 Q E)) : tMeth C m sp dvs E ta tr σ H Q := q
theorem w_methK {C : Addr} {m : Str} {n : Nat} {sp : Sp} {gV : List V → List V → List V} {E : XK} {tr : TA} (q : ta σ H fun x H1 => Mth C m x H1 (tr σ H1 fun zs H2 => zs.length = n ∧ sp (gV [x] zs) H2 Q E)) : tMethK C m n sp gV E ta tr σ H Q := q
theorem w_for {wi : TI} {g : TG} {tb : TS} (q : wi σ H fun J H1 => Loop J g tb D σ H1) : tFor wi g tb D σ H := q
theorem w_itup {K : PySem.W.Frag} {tl : TE} {R : It → Hp → Prop} (q : tl σ H fun x H1 => OverT K x H1 R) : iTup K tl σ H R := q
theorem w_ilist {K : PySem.W.Frag} {tl : TE} {R : It → Hp → Prop} (q : tl σ H fun x H1 => OverL K x H1 R) : iList K tl σ H R := q
theorem w_irng {ta : TA} {R : It → Hp → Prop} (q : ta σ H fun vs H1 => OverR vs H1 R) : iRng1 ta σ H R := q
theorem w_disp {trs : List (TE × TE)} (q : ∀ (p : Addr) (H1 : Hp), H p = none → H1 p = some (.dK []) → Same H H1 → tPairs trs σ H1 fun ps H2 => DAll p ps Q H2) : tDisp trs σ H Q :=
  fun p np => q p _ np upd_same fun b u e => by rw [upd_ne (ne_of_none e np)]; exact e
theorem w_pnil {QP : List (V × V) → Hp → Prop} (q : QP [] H) : tPairs [] σ H QP := q
theorem w_pcons {tk tv : TE} {r : List (TE × TE)} {QP : List (V × V) → Hp → Prop} (q : tk σ H fun x H1 => tv σ H1 fun y H2 => tPairs r σ H2 fun ps H3 => QP ((x, y) :: ps) H3) : tPairs ((tk, tv) :: r) σ H QP := q
theorem w_dput {td ty tv : TE} (q : tv σ H fun v H1 => td σ H1 fun x H2 => ty σ H2 fun y H3 => DPutQ v x y H3 (fun H4 => D.nx σ H4)) : sDPut td ty tv D σ H := q
theorem w_dget {td ty : TE} (q : td σ H fun x H1 => ty σ H1 fun y H2 => DGetQ x y H2 Q) : tDGet td ty σ H Q := q
theorem w_make {C : Addr} {sp : Sp} {dvs : List V} {E : XK} {tr : TA} (q : tr σ H fun vs H1 => Make C sp (fun x => x :: (vs ++ dvs)) E H1 Q) : tMake C sp dvs E tr σ H Q := q
theorem w_makeK {C : Addr} {n : Nat} {sp : Sp} {gV : List V → List V → List V} {E : XK} {tr : TA} (q : tr σ H fun zs H2 => zs.length = n ∧ Make C sp (fun x => gV [x] zs) E H2 Q) : tMakeKG C n sp gV E tr σ H Q := q
theorem w_drop (q : te σ H fun _ H1 => D.nx σ H1) : tDrop te D σ H := q
end
end KG

set_option Elab.async false
set_option linter.all false
set_option maxRecDepth 100000
set_option maxHeartbeats 4000000
namespace Law
open PySem PySem.Spec PyProof.Rows L2 KG
local macro_rules | `(tactic| walk_at "1") => `(tactic| first
  | (with_reducible refine w_var rfl ?_) | (with_reducible refine w_c ?_) | (with_reducible refine w_seq ?_) | (with_reducible refine w_asg ?_) | (with_reducible refine w_gname ?_) | (with_reducible refine w_op ?_) | (with_reducible refine w_un ?_)
  | (with_reducible refine w_add ?_) | (with_reducible refine w_sub ?_) | ((with_reducible refine' w_mod ?mo ?_); (case mo => first | assumption | decide | omega)) | (with_reducible refine w_and ?_) | (with_reducible refine w_or ?_) | (with_reducible refine w_xor ?_)
  | (with_reducible refine w_gt ?_) | (with_reducible refine w_lt ?_) | (with_reducible refine w_ge ?_) | (with_reducible refine w_le ?_) | ((with_reducible refine' w_eq ?sc ?_); (case sc => rfl)) | ((with_reducible refine' w_ne ?sc ?_); (case sc => rfl))
  | (with_reducible refine w_ret ?_) | (with_reducible refine w_next ?_) | (with_reducible refine w_ifs ?_) | (with_reducible refine w_ifx ?_) | (with_reducible refine w_test ?_) | (with_reducible refine w_tB ?_) | (with_reducible refine w_bl ?_)
  | ((with_reducible refine' w_ixL ?ixh ?ixa ?_); (case ixh => first | exact SqL.of (by assumption)); (case ixa => first | rfl | skip)) | ((with_reducible refine' w_ixT ?ixh ?ixa ?_); (case ixh => first | exact SqT.of (by assumption)); (case ixa => first | rfl | skip))
  | ((with_reducible refine' w_fld ?_)) | ((with_reducible refine' fld ?fh ?fc ?fn ?fl ?_); (case fh => assumption); (case fc => assumption); (case fn => assumption); (case fl => rfl)) | (with_reducible refine w_sfld ?_)
  | (with_reducible refine Or.inl ⟨_, rfl, ?_⟩) | (with_reducible refine w_gsub ?_) | (with_reducible refine w_andV ?_) | (with_reducible refine w_orV ?_)
  | (with_reducible refine w_nil ?_) | (with_reducible refine w_cons ?_) | (with_reducible refine w_tup ?_) | (with_reducible refine w_lst ?_) | (with_reducible refine w_and2 ?_) | (with_reducible refine w_or2 ?_) | (with_reducible refine w_not ?_) | (with_reducible refine w_cb ?_) | (with_reducible refine w_call ?_) | (with_reducible refine w_par ?_) | (with_reducible refine w_pnil ?_) | (with_reducible refine w_pcons ?_) | (with_reducible refine w_dput ?_) | (with_reducible refine w_dget ?_) | (with_reducible refine w_for ?_) | (with_reducible refine w_itup ?_) | (with_reducible refine w_ilist ?_) | (with_reducible refine w_irng ?_) | (with_reducible refine w_meth ?_) | (with_reducible refine w_make ?_) | (with_reducible refine w_makeK ?_) | (with_reducible refine w_methK ?_) | ((with_reducible refine' mth ?mh ?ml ?_); (case mh => assumption); (case ml => rfl)) | (with_reducible refine w_drop ?_))
local macro_rules | `(tactic| walk_at "go") => `(tactic| ((repeat (walk_at "1")); try dsimp only))
def top (i : Nat) : Stmt := PySem.Challenge.pw_keptbits_k07_kinds_walked.main.body.getD i (.Pass ⟨0, 0, 0, 0⟩)
abbrev s_Kind___init__ : Stmt := inClass (top 7) 3
theorem sc_Kind___init__ : FnScope ["self", "reading", "writing", "device", "value", "words"] ["self", "reading", "writing", "device"] (defScope s_Kind___init__) := ⟨rfl, rfl, rfl, by decide +kernel, rfl, by decide +kernel, by decide +kernel⟩
theorem bd_Kind___init__ : BindOk "__init__" "Kind.__init__" s_Kind___init__ ["self", "reading", "writing", "device"] := fun _ _ _ _ _ _ us hl => match us, hl with | [_, _, _, _], _ => rfl
abbrev s_Kind_after_read : Stmt := inClass (top 7) 4
theorem sc_Kind_after_read : FnScope ["self", "state"] ["self", "state"] (defScope s_Kind_after_read) := ⟨rfl, rfl, rfl, by decide +kernel, rfl, by decide +kernel, by decide +kernel⟩
theorem bd_Kind_after_read : BindOk "after_read" "Kind.after_read" s_Kind_after_read ["self", "state"] := fun _ _ _ _ _ _ us hl => match us, hl with | [_, _], _ => rfl
abbrev s_Kind_after_write : Stmt := inClass (top 7) 5
theorem sc_Kind_after_write : FnScope ["self", "state", "bit"] ["self", "state", "bit"] (defScope s_Kind_after_write) := ⟨rfl, rfl, rfl, by decide +kernel, rfl, by decide +kernel, by decide +kernel⟩
theorem bd_Kind_after_write : BindOk "after_write" "Kind.after_write" s_Kind_after_write ["self", "state", "bit"] := fun _ _ _ _ _ _ us hl => match us, hl with | [_, _, _], _ => rfl
abbrev s_Kind_unguarded : Stmt := inClass (top 7) 6
theorem sc_Kind_unguarded : FnScope ["self", "state", "bit", "ends"] ["self", "state", "bit"] (defScope s_Kind_unguarded) := ⟨rfl, rfl, rfl, by decide +kernel, rfl, by decide +kernel, by decide +kernel⟩
theorem bd_Kind_unguarded : BindOk "unguarded" "Kind.unguarded" s_Kind_unguarded ["self", "state", "bit"] := fun _ _ _ _ _ _ us hl => match us, hl with | [_, _, _], _ => rfl
abbrev s_Kind_deeds : Stmt := inClass (top 7) 7
theorem sc_Kind_deeds : FnScope ["self", "state"] ["self", "state"] (defScope s_Kind_deeds) := ⟨rfl, rfl, rfl, by decide +kernel, rfl, by decide +kernel, by decide +kernel⟩
theorem bd_Kind_deeds : BindOk "deeds" "Kind.deeds" s_Kind_deeds ["self", "state"] := fun _ _ _ _ _ _ us hl => match us, hl with | [_, _], _ => rfl
abbrev s_Kind___eq__ : Stmt := inClass (top 7) 8
theorem sc_Kind___eq__ : FnScope ["self", "other"] ["self", "other"] (defScope s_Kind___eq__) := ⟨rfl, rfl, rfl, by decide +kernel, rfl, by decide +kernel, by decide +kernel⟩
theorem bd_Kind___eq__ : BindOk "__eq__" "Kind.__eq__" s_Kind___eq__ ["self", "other"] := fun _ _ _ _ _ _ us hl => match us, hl with | [_, _], _ => rfl
abbrev s_Kind___str__ : Stmt := inClass (top 7) 9
theorem sc_Kind___str__ : FnScope ["self"] ["self"] (defScope s_Kind___str__) := ⟨rfl, rfl, rfl, by decide +kernel, rfl, by decide +kernel, by decide +kernel⟩
theorem bd_Kind___str__ : BindOk "__str__" "Kind.__str__" s_Kind___str__ ["self"] := fun _ _ _ _ _ _ us hl => match us, hl with | [_], _ => rfl
abbrev s__law_pen : Stmt := top 9
theorem sc__law_pen : FnScope ["_law_script"] ["_law_script"] (defScope s__law_pen) := ⟨rfl, rfl, rfl, by decide +kernel, rfl, by decide +kernel, by decide +kernel⟩
theorem bd__law_pen : BindOk "_law_pen" "_law_pen" s__law_pen ["_law_script"] := fun _ _ _ _ _ _ us hl => match us, hl with | [_], _ => rfl
abbrev s__law_draw : Stmt := top 10
theorem sc__law_draw : FnScope ["_law_pen_here", "_law_many", "_law_digit", "_law_at", "_law_cell", "_law_great", "_law_mixed"] ["_law_pen_here", "_law_many"] (defScope s__law_draw) := ⟨rfl, rfl, rfl, by decide +kernel, rfl, by decide +kernel, by decide +kernel⟩
theorem bd__law_draw : BindOk "_law_draw" "_law_draw" s__law_draw ["_law_pen_here", "_law_many"] := fun _ _ _ _ _ _ us hl => match us, hl with | [_, _], _ => rfl
abbrev s__law_write : Stmt := top 11
theorem sc__law_write : FnScope ["_law_second_word", "_law_stand", "_law_sign", "_law_value", "_law_second", "_law_ends"] ["_law_second_word", "_law_stand", "_law_sign"] (defScope s__law_write) := ⟨rfl, rfl, rfl, by decide +kernel, rfl, by decide +kernel, by decide +kernel⟩
theorem bd__law_write : BindOk "_law_write" "_law_write" s__law_write ["_law_second_word", "_law_stand", "_law_sign"] := fun _ _ _ _ _ _ us hl => match us, hl with | [_, _, _], _ => rfl
abbrev s__law_read : Stmt := top 12
theorem sc__law_read : FnScope ["_law_first", "_law_stand"] ["_law_first", "_law_stand"] (defScope s__law_read) := ⟨rfl, rfl, rfl, by decide +kernel, rfl, by decide +kernel, by decide +kernel⟩
theorem bd__law_read : BindOk "_law_read" "_law_read" s__law_read ["_law_first", "_law_stand"] := fun _ _ _ _ _ _ us hl => match us, hl with | [_, _], _ => rfl
abbrev s__law_deeds : Stmt := top 13
theorem sc__law_deeds : FnScope ["_law_third", "_law_stand"] ["_law_third", "_law_stand"] (defScope s__law_deeds) := ⟨rfl, rfl, rfl, by decide +kernel, rfl, by decide +kernel, by decide +kernel⟩
theorem bd__law_deeds : BindOk "_law_deeds" "_law_deeds" s__law_deeds ["_law_third", "_law_stand"] := fun _ _ _ _ _ _ us hl => match us, hl with | [_, _], _ => rfl
abbrev s__law_words : Stmt := top 14
theorem sc__law_words : FnScope ["_law_pen_here", "_law_writings", "_law_first"] ["_law_pen_here"] (defScope s__law_words) := ⟨rfl, rfl, rfl, by decide +kernel, rfl, by decide +kernel, by decide +kernel⟩
theorem bd__law_words : BindOk "_law_words" "_law_words" s__law_words ["_law_pen_here"] := fun _ _ _ _ _ _ us hl => match us, hl with | [_], _ => rfl
abbrev s__law_state_right : Stmt := top 15
theorem sc__law_state_right : FnScope ["_law_kind", "_law_words_here", "_law_stand", "_law_first", "_law_second_word", "_law_third", "_law_sign", "_law_due"] ["_law_kind", "_law_words_here", "_law_stand"] (defScope s__law_state_right) := ⟨rfl, rfl, rfl, by decide +kernel, rfl, by decide +kernel, by decide +kernel⟩
theorem bd__law_state_right : BindOk "_law_state_right" "_law_state_right" s__law_state_right ["_law_kind", "_law_words_here", "_law_stand"] := fun _ _ _ _ _ _ us hl => match us, hl with | [_, _, _], _ => rfl
abbrev s__law_onward : Stmt := top 16
theorem sc__law_onward : FnScope ["_law_pen_here", "_law_words_here", "_law_stand", "_law_pick"] ["_law_pen_here", "_law_words_here", "_law_stand"] (defScope s__law_onward) := ⟨rfl, rfl, rfl, by decide +kernel, rfl, by decide +kernel, by decide +kernel⟩
theorem bd__law_onward : BindOk "_law_onward" "_law_onward" s__law_onward ["_law_pen_here", "_law_words_here", "_law_stand"] := fun _ _ _ _ _ _ us hl => match us, hl with | [_, _, _], _ => rfl
abbrev s_law : Stmt := top 17
theorem sc_law : FnScope ["_law_script", "_law_pen_here", "_law_turn", "_law_words_here", "_law_kind", "_law_states", "_law_stand", "_law_again"] ["_law_script"] (defScope s_law) := ⟨rfl, rfl, rfl, by decide +kernel, rfl, by decide +kernel, by decide +kernel⟩
theorem bd_law : BindOk "law" "law" s_law ["_law_script"] := fun _ _ _ _ _ _ us hl => match us, hl with | [_], _ => rfl
/-! ### kinds -/
def RD : List Str := ["keep", "take"]
def WR : List Str := ["store", "clear1", "clear0", "set1", "flip1", "once", "none"]
def DV : List Str := ["still", "raise", "end", "drift"]
def kf (r w d : Str) (st : Addr) : List (Str × V) := [("reading", .str r), ("writing", .str w), ("device", .str d), ("states", .ref st)]
def stL (w : Str) : List V := if w = "once" then [.int 0, .int 1, .int 2, .int 3] else [.int 0, .int 1]
def KindAt (C : Addr) (H : Hp) (k : Addr) (r w d : Str) : Prop := ∃ dx st, H k = some (.ins C dx (kf r w d st)) ∧ H st = some (.tup (stL w))
/-- the table of writings: for the value v and the bit b -/
def tabV (w : Str) (v b : Int) : Int :=
  if w = "store" then b else if w = "clear1" then (if b = 1 then 0 else v) else if w = "clear0" then (if b = 1 then v else 0) else if w = "set1" then (if b = 1 then 1 else v)
  else if w = "flip1" then (if b = 1 then 1 - v else v) else if w = "once" then 2 + b else v
def invL (d : Str) : List V := if d = "raise" then [.int 0] else if d = "end" then [.int 1] else if d = "drift" then [.int 0, .int 1] else []
def rdF (r : Str) (s : Int) : Int := if r = "take" then Builtin.bitAnd s 2 else s
def awF (w : Str) (s b : Int) : Int := if Builtin.bitAnd s 2 = 0 then tabV w (Builtin.bitAnd s 1) b else s
def dvF (d : Str) (s : Int) : List V := if inV (.int (Builtin.bitAnd s 1)) (invL d) = true then [.int (Builtin.bitXor s 1)] else []
def St4 (s : Int) : Prop := s = 0 ∨ s = 1 ∨ s = 2 ∨ s = 3
structure KT (K : PySem.W.Frag) (w : World) (mg : Str → Option Value) (C aW aI : Addr) (mc : Value) : Prop where
  g_Kind : mg "Kind" = some (.ref C)
  g_SPENT : ∃ t, mg "SPENT" = some (.int 2 t)
  g_WRITES : mg "WRITES" = some (.ref aW)
  g_INVERTED : mg "INVERTED" = some (.ref aI)
  g_isinstance : mg "isinstance" = none
  cl : Cls K C
  nR : NoAttr K C "reading"
  nW : NoAttr K C "writing"
  nD : NoAttr K C "device"
  nS : NoAttr K C "states"
  rd : ClX.CRead K C mc
  cR : ∃ a, ClX.CVal K C mc "READINGS" (.ref a) (.ref a) ∧ KTup K a (RD.map V.str)
  cW : ∃ a, ClX.CVal K C mc "WRITINGS" (.ref a) (.ref a) ∧ KTup K a (WR.map V.str)
  cD : ∃ a, ClX.CVal K C mc "DEVICES" (.ref a) (.ref a) ∧ KTup K a (DV.map V.str)
  tW : ∀ x ∈ WR, ∃ t t0 t1, KDct K w aW x (.ref t) ∧ KTup K t [.ref t0, .ref t1] ∧ KTup K t0 [.int (tabV x 0 0), .int (tabV x 0 1)] ∧ KTup K t1 [.int (tabV x 1 0), .int (tabV x 1 1)]
  tI : ∀ x ∈ DV, ∃ t, KDct K w aI x (.ref t) ∧ KTup K t (invL x)
  isC : PySem.W.findIn K (.ref C) "__class__" = some (some (.builtin "object.__class__"))
  isG : PySem.W.specialIn K (.builtin "object.__class__") "__get__" = some (some (.builtin "getset_descriptor.__get__"))
  isT : PySem.W.takesIn K (.builtin "object.__class__") = some true
  isM : PySem.W.mroIn K C (.type "object") = some true
/-! ### promises -/
def spInit (C : Addr) : Sp := fun vs H Q _ => ∃ (x dx : Addr) (r w d : Str), vs = [.ref x, .str r, .str w, .str d] ∧ H x = some (.ins C dx []) ∧ r ∈ RD ∧ w ∈ WR ∧ d ∈ DV ∧
  ∀ H', KindAt C H' x r w d → (∀ b o, H b = some o → b ≠ x → H' b = some o) → Q .non H'
def spAR (C : Addr) : Sp := fun vs H Q _ => ∃ (k : Addr) (r w d : Str) (s : Int), vs = [.ref k, .int s] ∧ KindAt C H k r w d ∧ Q (.int (rdF r s)) H
def spUN (C : Addr) : Sp := fun vs H Q _ => ∃ (k : Addr) (r w d : Str) (s b : Int), vs = [.ref k, .int s, .int b] ∧ KindAt C H k r w d ∧ w ∈ WR ∧ St4 s ∧ (b = 0 ∨ b = 1) ∧ Q (.int (tabV w (Builtin.bitAnd s 1) b)) H
def spAW (C : Addr) : Sp := fun vs H Q _ => ∃ (k : Addr) (r w d : Str) (s b : Int), vs = [.ref k, .int s, .int b] ∧ KindAt C H k r w d ∧ w ∈ WR ∧ St4 s ∧ (b = 0 ∨ b = 1) ∧ Q (.int (awF w s b)) H
def spDE (C : Addr) : Sp := fun vs H Q _ => ∃ (k : Addr) (r w d : Str) (s : Int), vs = [.ref k, .int s] ∧ KindAt C H k r w d ∧ d ∈ DV ∧ St4 s ∧ ∀ t H', H t = none → H' t = some (.tup (dvF d s)) → Same H H' → Q (.ref t) H'
def spEQ (C : Addr) : Sp := fun vs H Q _ => ∃ (k j : Addr) (r w d r' w' d' : Str), vs = [.ref k, .ref j] ∧ KindAt C H k r w d ∧ KindAt C H j r' w' d' ∧ Q (.bl (decide (r = r') && decide (w = w') && decide (d = d'))) H
def spST (C : Addr) : Sp := fun vs H Q _ => ∃ (k : Addr) (r w d : Str), vs = [.ref k] ∧ KindAt C H k r w d ∧ r ∈ RD ∧ w ∈ WR ∧ d ∈ DV ∧ Q (.str (Str.empty ++ r ++ " " ++ w ++ " " ++ d)) H
section
variable {P : Program} {w : World} {K : PySem.W.Frag} {mg : Str → Option Value} {base : Heap} {C aW aI : Addr} {mc : Value}
theorem ok_AR {f : Addr} (D : MetAt K C "after_read" "Kind.after_read" s_Kind_after_read ["self", "state"] f) (T : KT K w mg C aW aI mc) : ∃ fd, Meth K C "after_read" f ∧ Fun K "after_read" "Kind.after_read" s_Kind_after_read f fd ∧ Binds K fd ["self", "state"] [] ∧ Gd P w K mg base CX0 1 f fd ["self", "state"] (spAR C) := by
  refine D.gd sc_Kind_after_read (fun vs H Q E h => ?_) (fun cdv A outer s H vs Q E rm gd h => ?_)
  · obtain ⟨k, r, w, d, s, rfl, _⟩ := h
    rfl
  · obtain ⟨k, r, w, d, s, rfl, ⟨dx, st, hk, hs⟩, q⟩ := h
    obtain ⟨tS, gS⟩ := T.g_SPENT
    have cl := T.cl
    have nR := T.nR
    refine ⟨_, (pss_cons (ps_if (pt_cmpR op_eq (pe_fld (pv 0) rfl) pe_str (nomark _))
      (pss_one (ps_ret (pe_op op_and (pv 1) (pe_glob (v := .int 2) rfl gS ⟨_, rfl⟩))))
      pss_nil)
    (pss_one (ps_ret (pv 1)))), ?_⟩
    walk_at "go"
    refine ite2 (fun h => ?_) (fun h => ?_)
    · have e : r = "take" := V.str.inj (of_decide_eq_true h)
      walk_at "go"
      unfold rdF at q
      rw [if_pos e] at q
      exact q
    · have e : ¬ r = "take" := fun z => h (decide_eq_true (congrArg V.str z))
      walk_at "go"
      unfold rdF at q
      rw [if_neg e] at q
      exact q
theorem ok_UN {f : Addr} (D : MetAt K C "unguarded" "Kind.unguarded" s_Kind_unguarded ["self", "state", "bit"] f) (T : KT K w mg C aW aI mc) : ∃ fd, Meth K C "unguarded" f ∧ Fun K "unguarded" "Kind.unguarded" s_Kind_unguarded f fd ∧ Binds K fd ["self", "state", "bit"] [] ∧ Gd P w K mg base CX0 1 f fd ["self", "state", "bit"] (spUN C) := by
  refine D.gd sc_Kind_unguarded (fun vs H Q E h => ?_) (fun cdv A outer s H vs Q E rm gd h => ?_)
  · obtain ⟨k, r, w, d, s, b, rfl, _⟩ := h
    rfl
  · obtain ⟨k, r, wr, d, s, b, rfl, ⟨dx, st, hk, hs⟩, hw, h4, hb, q⟩ := h
    obtain ⟨t, t0, t1, kd, kt, k0, k1⟩ := T.tW wr hw
    have cl := T.cl
    have nW := T.nW
    refine ⟨_, (pss_cons (ps_set (i := 3) sc_Kind_unguarded.nd rfl (Or.inl rfl) (pe_ix ix_kdict (pe_glob (v := .ref aW) rfl T.g_WRITES rfl) (pe_fld (pv 0) rfl) (fun _ _ => rfl)))
    (pss_one (ps_ret (pe_ix ix_tup (pe_ix ix_tup (pv 3) (pe_op op_and (pv 1) pe_int) (fun _ _ => rfl)) (pv 2) (fun _ _ => rfl))))), ?_⟩
    walk_at "go"
    refine w_kd kd ?_
    walk_at "go"
    have h2 : Builtin.bitAnd s 1 = 0 ∨ Builtin.bitAnd s 1 = 1 := by
      rcases h4 with rfl | rfl | rfl | rfl <;> decide
    rcases h2 with e | e <;> rw [e] at q ⊢
    · refine w_ixT (kt.t _) rfl ?_
      walk_at "go"
      rcases hb with rfl | rfl
      · exact w_ixT (k0.t _) rfl q
      · exact w_ixT (k0.t _) rfl q
    · refine w_ixT (kt.t _) rfl ?_
      walk_at "go"
      rcases hb with rfl | rfl
      · exact w_ixT (k1.t _) rfl q
      · exact w_ixT (k1.t _) rfl q
theorem ok_AW {f u : Addr} (D : MetAt K C "after_write" "Kind.after_write" s_Kind_after_write ["self", "state", "bit"] f) (T : KT K w mg C aW aI mc) (mU : Met P w K mg base 1 C "unguarded" u (spUN C)) :
    ∃ fd, Meth K C "after_write" f ∧ Fun K "after_write" "Kind.after_write" s_Kind_after_write f fd ∧ Binds K fd ["self", "state", "bit"] [] ∧ Gd P w K mg base CX0 2 f fd ["self", "state", "bit"] (spAW C) := by
  refine D.gd sc_Kind_after_write (fun vs H Q E h => ?_) (fun cdv A outer s H vs Q E rm gd h => ?_)
  · obtain ⟨k, r, w, d, s, b, rfl, _⟩ := h
    rfl
  · obtain ⟨k, r, wr, d, s, b, rfl, ⟨dx, st, hk, hs⟩, hw, h4, hb, q⟩ := h
    obtain ⟨tS, gS⟩ := T.g_SPENT
    refine ⟨_, (pss_cons (ps_if (pt_cmpR op_ne (pe_op op_and (pv 1) (pe_glob (v := .int 2) rfl gS ⟨_, rfl⟩)) pe_int (nomark _))
      (pss_one (ps_ret (pv 1)))
      pss_nil)
    (pss_one (ps_ret (pm mU T.cl rm (by decide) gd (pv 0) (pa_cons (pv 1) (pa_cons (pv 2) pa_nil)))))), ?_⟩
    walk_at "go"
    refine ite2 (fun h => ?_) (fun h => ?_)
    · have e : ¬ Builtin.bitAnd s 2 = 0 := fun z => by
        rw [z] at h
        exact absurd h (by decide)
      walk_at "go"
      unfold awF at q
      rw [if_neg e] at q
      exact q
    · have e : Builtin.bitAnd s 2 = 0 := by
        by_cases z : Builtin.bitAnd s 2 = 0
        · exact z
        · refine absurd ?_ h
          rw [decide_eq_false (fun y => z (V.int.inj y))]
          rfl
      walk_at "go"
      unfold awF at q
      rw [if_pos e] at q
      exact ⟨k, r, wr, d, s, b, rfl, ⟨dx, st, hk, hs⟩, hw, h4, hb, q⟩
theorem ok_DE {f : Addr} (D : MetAt K C "deeds" "Kind.deeds" s_Kind_deeds ["self", "state"] f) (T : KT K w mg C aW aI mc) : ∃ fd, Meth K C "deeds" f ∧ Fun K "deeds" "Kind.deeds" s_Kind_deeds f fd ∧ Binds K fd ["self", "state"] [] ∧ Gd P w K mg base CX0 1 f fd ["self", "state"] (spDE C) := by
  refine D.gd sc_Kind_deeds (fun vs H Q E h => ?_) (fun cdv A outer s H vs Q E rm gd h => ?_)
  · obtain ⟨k, r, w, d, s, rfl, _⟩ := h
    rfl
  · obtain ⟨k, r, wr, d, s, rfl, ⟨dx, st, hk, hs⟩, hd, h4, q⟩ := h
    obtain ⟨t, kd, kt⟩ := T.tI d hd
    have cl := T.cl
    have nD := T.nD
    refine ⟨_, (pss_cons (ps_if (pt_cmpR op_in_seq (pe_op op_and (pv 1) pe_int) (pe_ix ix_kdict (pe_glob (v := .ref aI) rfl T.g_INVERTED rfl) (pe_fld (pv 0) rfl) (fun _ _ => rfl)) rfl)
      (pss_one (ps_ret (pe_tup (pa_cons (pe_op op_xor (pv 1) pe_int) pa_nil))))
      pss_nil)
    (pss_one (ps_ret (pe_tup pa_nil)))), ?_⟩
    walk_at "go"
    refine w_kd kd ?_
    refine w_in (.inr (kt.t _)) rfl ?_ ?_
    · unfold invL
      repeat' split
      all_goals rfl
    walk_at "go"
    refine ite2 (fun h => ?_) (fun h => ?_)
    · have e : inV (.int (Builtin.bitAnd s 1)) (invL d) = true := h
      walk_at "go"
      refine new (by show 1 ≤ sizeLine; decide) fun t H' nt ht s1 => ?_
      unfold dvF at q
      rw [if_pos e] at q
      exact q t H' nt ht s1
    · have e : ¬ inV (.int (Builtin.bitAnd s 1)) (invL d) = true := h
      walk_at "go"
      refine new (by show 0 ≤ sizeLine; decide) fun t H' nt ht s1 => ?_
      unfold dvF at q
      rw [if_neg e] at q
      exact q t H' nt ht s1
theorem ty_kind (T : KT K w mg C aW aI mc) {H : Hp} {k : Addr} {r wr d : Str} (h : KindAt C H k r wr d) : TyX K H (.ref k) (.ref C) := by
  obtain ⟨dx, st, hk, _⟩ := h
  exact .base (.ins hk T.cl T.isC T.isG T.isT T.isM)
theorem ok_EQ {f : Addr} (D : MetAt K C "__eq__" "Kind.__eq__" s_Kind___eq__ ["self", "other"] f) (T : KT K w mg C aW aI mc) : ∃ fd, Meth K C "__eq__" f ∧ Fun K "__eq__" "Kind.__eq__" s_Kind___eq__ f fd ∧ Binds K fd ["self", "other"] [] ∧ Gd P w K mg base CX0 1 f fd ["self", "other"] (spEQ C) := by
  refine D.gd sc_Kind___eq__ (fun vs H Q E h => ?_) (fun cdv A outer s H vs Q E rm gd h => ?_)
  · obtain ⟨k, j, r, w, d, r', w', d', rfl, _⟩ := h
    rfl
  · obtain ⟨k, j, r, wr, d, r', w', d', rfl, Hk, Hj, q⟩ := h
    obtain ⟨dx, st, hk, hs⟩ := id Hk
    obtain ⟨dy, su, hj, hu⟩ := id Hj
    have B := T
    have cl := T.cl
    have nR := T.nR
    have nW := T.nW
    have nD := T.nD
    refine ⟨_, (pss_one (ps_ret (pe_and (pe_callB call_isi (by rfl) B.g_isinstance (by decide +kernel) (pa_cons (pv 1) (pa_cons (pe_glob (v := .ref C) rfl T.g_Kind rfl) pa_nil))) (pe_and (pe_cmpR op_eq (pe_fld (pv 0) rfl) (pe_fld (pv 1) rfl) (nomark _)) (pe_and (pe_cmpR op_eq (pe_fld (pv 0) rfl) (pe_fld (pv 1) rfl) (nomark _)) (pe_one (pe_cmpR op_eq (pe_fld (pv 0) rfl) (pe_fld (pv 1) rfl) (nomark _)))))))), ?_⟩
    walk_at "go"
    refine ⟨.ref j, .ref C, .ref C, .ref C, true, rfl, .own C, ty_kind T Hj, if_pos (beq_self_eq_true _), true, rfl, ?_⟩
    refine iteT ?_
    walk_at "go"
    have dS : ∀ a b : Str, decide (V.str a = V.str b) = decide (a = b) := fun a b => by
      by_cases h : a = b
      · subst h
        rw [decide_eq_true rfl, decide_eq_true rfl]
      · rw [decide_eq_false h, decide_eq_false fun z => h (V.str.inj z)]
    rw [dS]
    by_cases h1 : r = r'
    · rw [decide_eq_true h1] at q ⊢
      refine iteT ?_
      walk_at "go"
      rw [dS]
      by_cases h2 : wr = w'
      · rw [decide_eq_true h2] at q ⊢
        refine iteT ?_
        walk_at "go"
        rw [dS]
        exact q
      · rw [decide_eq_false h2] at q ⊢
        exact iteF q
    · rw [decide_eq_false h1] at q ⊢
      exact iteF q
theorem in_mem {x : Str} : ∀ {l : List Str}, x ∈ l → inV (.str x) (l.map V.str) = true
  | [], h => absurd h List.not_mem_nil
  | y :: l, h => by
    show (eqV (.str y) (.str x) || (l.map V.str).any fun z => eqV z (.str x)) = true
    rcases List.mem_cons.mp h with e | e
    · subst e
      rw [show eqV (V.str x) (V.str x) = true from beq_self_eq_true x, Bool.true_or]
    · have := in_mem e
      unfold inV at this
      rw [this, Bool.or_true]
theorem flat_strs : ∀ l : List Str, (l.map V.str).all flatV = true
  | [] => rfl
  | _ :: l => by
    rw [List.map_cons, List.all_cons, flat_strs l]
    rfl
theorem sh_rd : ∀ x ∈ RD, x.length ≤ 10 := by decide +kernel
theorem sh_wr : ∀ x ∈ WR, x.length ≤ 10 := by decide +kernel
theorem sh_dv : ∀ x ∈ DV, x.length ≤ 10 := by decide +kernel
theorem ln {a b : Str} {n m k : Nat} (h1 : a.length ≤ n) (h2 : b.length ≤ m) (h : n + m ≤ k) : (a ++ b).length ≤ k := by
  rw [strLen_append]
  omega
theorem ok_ST {f : Addr} (D : MetAt K C "__str__" "Kind.__str__" s_Kind___str__ ["self"] f) (T : KT K w mg C aW aI mc) : ∃ fd, Meth K C "__str__" f ∧ Fun K "__str__" "Kind.__str__" s_Kind___str__ f fd ∧ Binds K fd ["self"] [] ∧ Gd P w K mg base CX0 1 f fd ["self"] (spST C) := by
  refine D.gd sc_Kind___str__ (fun vs H Q E h => ?_) (fun cdv A outer s H vs Q E rm gd h => ?_)
  · obtain ⟨k, r, w, d, rfl, _⟩ := h
    rfl
  · obtain ⟨k, r, wr, d, rfl, ⟨dx, st, hk, hs⟩, hr, hw, hd, q⟩ := h
    have cl := T.cl
    have nR := T.nR
    have nW := T.nW
    have nD := T.nD
    have l1 := sh_rd r hr
    have l2 := sh_wr wr hw
    have l3 := sh_dv d hd
    have big : ∀ {n : Nat}, n ≤ 100 → n ≤ sizeLine := fun h => Nat.le_trans h (by decide)
    have e0 : (Str.empty ++ r).length ≤ 10 := ln (n := 0) (m := 10) (Nat.le_refl _) l1 (by decide)
    have e1 : (Str.empty ++ r ++ (" " : Str)).length ≤ 11 := ln e0 (m := 1) (by decide) (by decide)
    have e2 : (Str.empty ++ r ++ (" " : Str) ++ wr).length ≤ 21 := ln e1 l2 (by decide)
    have e3 : (Str.empty ++ r ++ (" " : Str) ++ wr ++ (" " : Str)).length ≤ 22 := ln e2 (m := 1) (by decide) (by decide)
    have e4 : (Str.empty ++ r ++ (" " : Str) ++ wr ++ (" " : Str) ++ d).length ≤ 32 := ln e3 l3 (by decide)
    refine ⟨_, (pss_one (ps_ret (pe_joined (.cons (pe_fmt (pe_fld (pv 0) rfl)) (.cons pe_str (.cons (pe_fmt (pe_fld (pv 0) rfl)) (.cons pe_str (.cons (pe_fmt (pe_fld (pv 0) rfl)) .nil)))))))), ?_⟩
    refine ⟨_, rfl, k, C, dx, _, _, rfl, hk, cl, nR, rfl, .inl ⟨r, rfl, big (by omega), r, rfl, big (by omega), " ", rfl, big (by omega), ?_⟩⟩
    refine ⟨_, rfl, k, C, dx, _, _, rfl, hk, cl, nW, rfl, .inl ⟨wr, rfl, big (by omega), wr, rfl, big (by omega), " ", rfl, big (by omega), ?_⟩⟩
    exact ⟨_, rfl, k, C, dx, _, _, rfl, hk, cl, nD, rfl, .inl ⟨d, rfl, big (by omega), d, rfl, big (by omega), q⟩⟩
theorem ok_IN {f : Addr} (D : MetAt K C "__init__" "Kind.__init__" s_Kind___init__ ["self", "reading", "writing", "device"] f) (T : KT K w mg C aW aI mc) :
    ∃ fd, Meth K C "__init__" f ∧ Fun K "__init__" "Kind.__init__" s_Kind___init__ f fd ∧ Binds K fd ["self", "reading", "writing", "device"] [] ∧ Gd P w K mg base CX0 1 f fd ["self", "reading", "writing", "device"] (spInit C) := by
  refine D.gd sc_Kind___init__ (fun vs H Q E h => ?_) (fun cdv A outer s H vs Q E rm gd h => ?_)
  · obtain ⟨x, dx, r, w, d, rfl, _⟩ := h
    rfl
  · obtain ⟨x, dx, r, wr, d, rfl, hx, hr, hw, hd, q⟩ := h
    obtain ⟨aR, cR, kR⟩ := T.cR
    obtain ⟨bW, cW, kW⟩ := T.cW
    obtain ⟨aD, cD, kD⟩ := T.cD
    have cl := T.cl
    have nR := T.nR
    have nW := T.nW
    have nD := T.nD
    have nS := T.nS
    refine ⟨_, (pss_cons (ps_for PassesOwn.never rfl (pi_tup (pe_tup (pa_cons (pe_tup (pa_cons (pv 1) (pa_cons (ClX.pe_cval (pe_glob (v := .ref C) rfl T.g_Kind rfl)) pa_nil))) (pa_cons (pe_tup (pa_cons (pv 2) (pa_cons (ClX.pe_cval (pe_glob (v := .ref C) rfl T.g_Kind rfl)) pa_nil))) (pa_cons (pe_tup (pa_cons (pv 3) (pa_cons (ClX.pe_cval (pe_glob (v := .ref C) rfl T.g_Kind rfl)) pa_nil))) pa_nil))))) (pg_tup rfl (pgs_cons (pg_name (i := 4) sc_Kind___init__.nd rfl (Or.inl rfl)) (pgs_cons (pg_name (i := 5) sc_Kind___init__.nd rfl (Or.inl rfl)) pgs_nil)))
      (pss_one (ps_if (pt_cmpR op_notIn_seq (pv 4) (pv 5) rfl)
        (pss_one ps_never)
        pss_nil)))
    (pss_cons (ps_fld (pv 0) (pv 1) rfl)
    (pss_cons (ps_fld (pv 0) (pv 2) rfl)
    (pss_cons (ps_fld (pv 0) (pv 3) rfl)
    (pss_one (ps_fld (pv 0) (pe_ifExp (pt_cmpR op_eq (pv 2) pe_str (nomark _)) (pe_tup (pa_cons pe_int (pa_cons pe_int (pa_cons pe_int (pa_cons pe_int pa_nil))))) (pe_tup (pa_cons pe_int (pa_cons pe_int pa_nil)))) rfl)))))), ?_⟩
    walk_at "go"
    refine ⟨C, mc, .ref aR, .ref aR, rfl, T.rd, cR, ?_⟩
    walk_at "go"
    refine new (by show 2 ≤ sizeLine; decide) fun t1 H1 n1 h1 s1 => ?_
    walk_at "go"
    refine ⟨C, mc, .ref bW, .ref bW, rfl, T.rd, cW, ?_⟩
    walk_at "go"
    refine new (by show 2 ≤ sizeLine; decide) fun t2 H2 n2 h2 s2 => ?_
    walk_at "go"
    refine ⟨C, mc, .ref aD, .ref aD, rfl, T.rd, cD, ?_⟩
    walk_at "go"
    refine new (by show 2 ≤ sizeLine; decide) fun t3 H3 n3 h3 s3 => ?_
    walk_at "go"
    refine new (by show 3 ≤ sizeLine; decide) fun t4 H4 n4 h4 s4 => ?_
    have sA := s1.trans (s2.trans (s3.trans s4))
    refine over_t (SqT.of h4) (for_tup (xs := [.ref t1, .ref t2, .ref t3]) (fun i σ H' => ∃ v4 v5, σ = [some (.ref x), some (.str r), some (.str wr), some (.str d), v4, v5] ∧ Same H4 H') ⟨none, none, rfl, Same.refl _⟩ (fun i σ H' _ ⟨_, _, _, z⟩ => SqT.of (z _ _ h4)) ?_ ?_)
    · rintro i y σ H' hi ⟨v4, v5, rfl, z⟩
      have one : ∀ {t a : Addr} {val : Str} {l : List Str} (ht : H4 t = some (.tup [.str val, .ref a])) (ka : KTup K a (l.map V.str)) (hm : val ∈ l) (D : Ends),
          (D.nx = fun σ H' => ∃ v4 v5, σ = [some (.ref x), some (.str r), some (.str wr), some (.str d), v4, v5] ∧ Same H4 H') → True := fun _ _ _ _ _ => trivial
      match i, hi with
      | 0, hi =>
        cases hi
        refine ⟨t1, [.str r, .ref aR], rfl, SqT.of (z _ _ (s4 _ _ (s3 _ _ (s2 _ _ h1)))), rfl, _, _, rfl, _, _, rfl, rfl, ?_⟩
        walk_at "go"
        refine w_in (.inr (kR.t _)) rfl (flat_strs _) ?_
        walk_at "go"
        rw [in_mem hr]
        refine iteF ?_
        exact ⟨_, _, rfl, z⟩
      | 1, hi =>
        cases hi
        refine ⟨t2, [.str wr, .ref bW], rfl, SqT.of (z _ _ (s4 _ _ (s3 _ _ h2))), rfl, _, _, rfl, _, _, rfl, rfl, ?_⟩
        walk_at "go"
        refine w_in (.inr (kW.t _)) rfl (flat_strs _) ?_
        walk_at "go"
        rw [in_mem hw]
        refine iteF ?_
        exact ⟨_, _, rfl, z⟩
      | 2, hi =>
        cases hi
        refine ⟨t3, [.str d, .ref aD], rfl, SqT.of (z _ _ (s4 _ _ h3)), rfl, _, _, rfl, _, _, rfl, rfl, ?_⟩
        walk_at "go"
        refine w_in (.inr (kD.t _)) rfl (flat_strs _) ?_
        walk_at "go"
        rw [in_mem hd]
        refine iteF ?_
        exact ⟨_, _, rfl, z⟩
    · rintro σ H5 ⟨v4, v5, rfl, z⟩
      have s5 := sA.trans z
      have hx5 := s5 _ _ hx
      walk_at "go"
      refine sfld hx5 cl nR (by show 0 < 1000; decide) rfl fun H6 h6 e6 => ?_
      walk_at "go"
      refine sfld h6 cl nW (by show 1 < 1000; decide) rfl fun H7 h7 e7 => ?_
      walk_at "go"
      refine sfld h7 cl nD (by show 2 < 1000; decide) rfl fun H8 h8 e8 => ?_
      walk_at "go"
      have fin : ∀ (st : Addr) (H9 H10 : Hp), H9 st = some (.tup (stL wr)) → Same H8 H9 → H10 x = some (.ins C dx (kf r wr d st)) → (∀ b, b ≠ x → H10 b = H9 b) → Q .non H10 := fun st H9 H10 hst s9 hx10 e10 => by
        have nx : st ≠ x := ne_of hst (s9 _ _ h8) (by intro y; cases y)
        refine q H10 ⟨dx, st, hx10, (e10 st nx).trans hst⟩ fun b o e nb => ?_
        rw [e10 b nb]
        refine s9 _ _ ?_
        rw [e8 b nb, e7 b nb, e6 b nb]
        exact s5 _ _ e
      refine ite2 (fun h => ?_) (fun h => ?_)
      · have e : wr = "once" := V.str.inj (of_decide_eq_true h)
        walk_at "go"
        refine new (by show 4 ≤ sizeLine; decide) fun st H9 n9 h9 s9 => ?_
        walk_at "go"
        refine sfld (s9 _ _ h8) cl nS (by show 3 < 1000; decide) rfl fun H10 h10 e10 => ?_
        exact fin st H9 H10 (by rw [h9]; unfold stL; rw [if_pos e]) s9 h10 e10
      · have e : ¬ wr = "once" := fun z => h (decide_eq_true (congrArg V.str z))
        walk_at "go"
        refine new (by show 2 ≤ sizeLine; decide) fun st H9 n9 h9 s9 => ?_
        walk_at "go"
        refine sfld (s9 _ _ h8) cl nS (by show 3 < 1000; decide) rfl fun H10 h10 e10 => ?_
        exact fin st H9 H10 (by rw [h9]; unfold stL; rw [if_neg e]) s9 h10 e10
end
/-- what is tracked stays, but at p -/
def Kp (p : Addr) (H H' : Hp) : Prop := ∀ b o, H b = some o → b ≠ p → H' b = some o
/-- the pen at p -/
def PenC (n : Nat) (p l : Addr) (cells : List Int) (H : Hp) : Prop := cells.length ≤ 63 ∧ H l = some (.lst (cells.map V.int)) ∧ ∃ (a : Nat) (r : Int), a ≤ n ∧ H p = some (.lst [.ref l, .int a, .int r])
def spDraw : Sp := fun vs H Q _ => ∃ (p l : Addr) (cells : List Int) (n : Nat) (m : Int), vs = [.ref p, .int m] ∧ PenC n p l cells H ∧ n ≤ 100000 ∧ 0 < m ∧ m < 1073741824 ∧
  ∀ (d : Int) (H' : Hp), 0 ≤ d → d < m → PenC (n + 1) p l cells H' → Kp p H H' → Q (.int d) H'
structure Bi (mg : Str → Option Value) : Prop where
  g_int : mg "int" = none
  g_len : mg "len" = none
  g_abs : mg "abs" = none
  g_list : mg "list" = none
  g_repr : mg "repr" = none
  g_range : mg "range" = none
  g_str : mg "str" = none
theorem dp_ints {K : PySem.W.Frag} {H : Hp} : ∀ ns : List Int, DpAll K H (ns.map V.int) (ns.map PyData.int)
  | [] => .nil
  | n :: ns => .cons (.int n) (dp_ints ns)
theorem sh_ints (ns : List Int) : SeqAt.shaped (.list (ns.map PyData.int)) = true := by
  have h1 : ∀ ns : List Int, PyData.canLayAll0 (ns.map PyData.int) = true := fun ns => by
    induction ns with
    | nil => simp [PyData.canLayAll0]
    | cons a as ih => simp only [List.map_cons, PyData.canLayAll0, PyData.canLay0, ih, Bool.and_self]
  have h2 : ∀ ns : List Int, PyData.depthAll (ns.map PyData.int) = 0 := fun ns => by
    induction ns with
    | nil => simp [PyData.depthAll]
    | cons a as ih => simp only [List.map_cons, PyData.depthAll, PyData.depth, ih, Nat.max_self]
  unfold SeqAt.shaped
  simp only [PyData.canLay0, PyData.depth, h1, h2]
  decide
theorem at_int {cells : List Int} {i : Int} (h0 : 0 ≤ i) (h1 : i < (cells.length : Int)) : ∃ c : Int, atI (cells.map V.int) i = some (.int c) := by
  have h : i.toNat < cells.length := by omega
  refine ⟨cells[i.toNat], at_of (j := i.toNat) (by omega) ?_⟩
  rw [List.getElem?_map, List.getElem?_eq_getElem h]
  rfl
section
variable {P : Program} {w : World} {K : PySem.W.Frag} {mg : Str → Option Value} {base : Heap}
theorem ok_draw (D : DefAt K mg "_law_draw" s__law_draw ["_law_pen_here", "_law_many"]) (B : Bi mg) : Cal P w K mg base 1 "_law_draw" spDraw := by
  refine D.cal sc__law_draw (fun vs H Q E h => ?_) (fun f cdv A outer s H vs Q E rm gd h => ?_)
  · obtain ⟨p, l, cells, n, m, rfl, _⟩ := h
    rfl
  · obtain ⟨p, l, cells, n, m, rfl, ⟨hc, hl, a, r, ha, hp⟩, hn, hm, hm2, k⟩ := h
    have hpl : p ≠ l := ne_of hp hl (by
      intro z
      cases cells with
      | nil => cases z
      | cons c cs => injection z with z; injection z with z; cases z)
    refine ⟨_, (pss_cons (ps_if (pt_cmpR op_gt (pe_ix ix_list (pv 0) pe_int (fun _ _ => rfl)) pe_int (nomark _))
      (pss_cons (ps_set (i := 2) sc__law_draw.nd rfl (Or.inl rfl) (pe_op op_mod (pe_callTy call_int1 (by rfl) B.g_int (by decide +kernel) (pa_cons (pe_ix ix_list (pv 0) pe_int (fun _ _ => rfl)) pa_nil)) (pv 1)))
      (pss_cons (ps_asg (pe_op op_fdiv (pe_callTy call_int1 (by rfl) B.g_int (by decide +kernel) (pa_cons (pe_ix ix_list (pv 0) pe_int (fun _ _ => rfl)) pa_nil)) (pv 1)) (pg_sub (pv 0) pe_int set_list))
      (pss_one (ps_ret (pv 2)))))
      pss_nil)
    (pss_cons (ps_set (i := 3) sc__law_draw.nd rfl (Or.inl rfl) (pe_ix ix_list (pv 0) pe_int (fun _ _ => rfl)))
    (pss_cons (ps_asg (pe_op op_add (pv 3) pe_int) (pg_sub (pv 0) pe_int set_list))
    (pss_cons (ps_set (i := 4) sc__law_draw.nd rfl (Or.inl rfl) (pe_op op_add (pe_op op_mul pe_int (pv 3)) pe_int))
    (pss_mid (ps_if (pt_cmpR (op_neD rm.units) (pe_ix ix_list (pv 0) pe_int (fun _ _ => rfl)) (pe_lst pa_nil) (nomark _))
      (pss_one (ps_set (i := 4) sc__law_draw.nd rfl (Or.inl rfl) (pe_ix ix_list (pe_ix ix_list (pv 0) pe_int (fun _ _ => rfl)) (pe_op op_mod (pe_callTy call_int1 (by rfl) B.g_int (by decide +kernel) (pa_cons (pv 3) pa_nil)) (pe_callB call_len_seq (by rfl) B.g_len (by decide +kernel) (pa_cons (pe_ix ix_list (pv 0) pe_int (fun _ _ => rfl)) pa_nil))) (fun _ _ => rfl))))
      pss_nil)
    (pss_mid (ps_if (PW.pt (pw_and (pt_cmpR op_lt (pv 3) (pe_callB call_len_seq (by rfl) B.g_len (by decide +kernel) (pa_cons (pe_ix ix_list (pv 0) pe_int (fun _ _ => rfl)) pa_nil)) (nomark _)) (pw_and1 (pt_cmpR op_ge (pe_callB call_abs (by rfl) B.g_abs (by decide +kernel) (pa_cons (pv 4) pa_nil)) (pe_op op_pow pe_int pe_int) (nomark _)))))
      (pss_cons (ps_set (i := 5) sc__law_draw.nd rfl (Or.inl rfl) (pe_op op_add (pe_op op_mul pe_int (pe_callB call_abs (by rfl) B.g_abs (by decide +kernel) (pa_cons (pv 4) pa_nil))) (pe_callTy call_int1 (by rfl) B.g_int (by decide +kernel) (pa_cons (pe_cmpR op_lt (pv 4) pe_int (nomark _)) pa_nil))))
      (pss_cons (ps_asg (pe_op op_fdiv (pv 5) (pv 1)) (pg_sub (pv 0) pe_int set_list))
      (pss_one (ps_ret (pe_op op_mod (pe_callTy call_int1 (by rfl) B.g_int (by decide +kernel) (pa_cons (pv 5) pa_nil)) (pv 1))))))
      pss_nil)
    (pss_cons (ps_set (i := 6) sc__law_draw.nd rfl (Or.inl rfl) (pe_op op_mod (pe_op op_pow (pe_callTy call_int1 (by rfl) B.g_int (by decide +kernel) (pa_cons (pe_op op_add (pe_op op_add (pe_op op_mod (pe_callTy call_int1 (by rfl) B.g_int (by decide +kernel) (pa_cons (pv 4) pa_nil)) pe_int) (pe_op op_mul pe_int (pv 3))) pe_int) pa_nil)) pe_int) pe_int))
    (pss_cons (ps_set (i := 6) sc__law_draw.nd rfl (Or.inl rfl) (pe_op op_mod (pe_op op_pow (pe_callTy call_int1 (by rfl) B.g_int (by decide +kernel) (pa_cons (pe_op op_add (pe_op op_add (pe_op op_mul (pv 6) (pe_op op_add (pv 3) pe_int)) (pe_op op_mul (pe_op op_mul pe_int (pv 3)) (pv 3))) pe_int) pa_nil)) pe_int) pe_int))
    (pss_one (ps_ret (pe_op op_mod (pe_callTy call_int1 (by rfl) B.g_int (by decide +kernel) (pa_cons (pe_op op_fdiv (pv 6) pe_int) pa_nil)) (pv 1)))))))))))), ?_⟩
    walk_at "go"
    refine ite2 (fun h0 => ?_) (fun h0 => ?_)
    · walk_at "go"
      refine w_fdiv ⟨hm, hm2⟩ ?_
      walk_at "go"
      refine w_setG hp rfl rfl fun H1 hp1 e1 => ?_
      walk_at "go"
      refine k _ _ (Int.emod_nonneg _ (by omega)) (Int.emod_lt_of_pos _ hm) ⟨hc, (e1 l hpl.symm).trans hl, a, r / m, by omega, hp1⟩ fun b o e nb => (e1 b nb).trans e
    · walk_at "go"
      refine w_setG hp rfl rfl fun H1 hp1 e1 => ?_
      have hl1 : H1 l = some (.lst (cells.map V.int)) := (e1 l hpl.symm).trans hl
      have hp1 : H1 p = some (.lst [.ref l, .int ((a + 1 : Nat) : Int), .int r]) := hp1
      walk_at "go"
      refine w_mul (.inl ⟨by omega, by omega⟩) ?_
      walk_at "go"
      refine ⟨fun σ' H' => Same H1 H' ∧ ∃ c : Int, σ' = [some (.ref p), some (.int m), none, some (.int a), some (.int c), none, none], ?_, ?_⟩
      · walk_at "go"
        refine new (by decide) fun z H2 nz hz s2 => ?_
        have hp2 := s2 _ _ hp1
        have hl2 := s2 _ _ hl1
        refine ⟨.list (cells.map .int), .list [], .lst (SqL.of hl2) (dp_ints cells), .lst (SqL.of hz) .nil, sh_ints cells, by decide +kernel, ?_⟩
        walk_at "go"
        refine ite2 (fun hne => ?_) (fun _ => ?_)
        · have pos : 0 < cells.length := by
            cases cells with
            | nil => exact absurd hne (by decide)
            | cons c cs => exact Nat.succ_pos _
          walk_at "go"
          refine ⟨l, cells.map .int, rfl, .inl (SqL.of hl2), ?_⟩
          rw [List.length_map]
          walk_at "go"
          have b0 : 0 ≤ (a : Int) % (cells.length : Int) := Int.emod_nonneg _ (by omega)
          have b1 : (a : Int) % (cells.length : Int) < (cells.length : Int) := Int.emod_lt_of_pos _ (by omega)
          obtain ⟨c, hc'⟩ := at_int (cells := cells) b0 b1
          refine w_ixL (SqL.of hl2) hc' ?_
          walk_at "go"
          exact ⟨s2, c, rfl⟩
        · walk_at "go"
          exact ⟨s2, _, rfl⟩
      · rintro σ' H2 ⟨s2, c, rfl⟩
        have hp2 := s2 _ _ hp1
        have hl2 := s2 _ _ hl1
        have fin : ∀ (d : Int) (rr : Int) (H' : Hp), 0 ≤ d → d < m → H' p = some (.lst [.ref l, .int ((a + 1 : Nat) : Int), .int rr]) → (∀ b, b ≠ p → H' b = H2 b) → Q (V.int d) H' := fun d rr H' d0 d1 hp' e' =>
          k d H' d0 d1 ⟨hc, (e' l hpl.symm).trans hl2, a + 1, rr, by omega, hp'⟩ fun b o e nb => (e' b nb).trans (s2 _ _ ((e1 b nb).trans e))
        have absok : ∀ c : Int, 0 ≤ (if c < 0 then -c else c) := fun c => by split <;> omega
        refine ⟨fun σ' H' => H' = H2 ∧ σ' = [some (.ref p), some (.int m), none, some (.int a), some (.int c), none, none], ?_, ?_⟩
        · have big : ∀ (b : Int) (D : Ends), (∀ (d : Int) (H' : Hp), D.rt (.int d) H' = Q (.int d) H') → True := fun _ _ _ => trivial
          walk_at "go"
          refine ⟨l, cells.map .int, rfl, .inl (SqL.of hl2), ?_⟩
          rw [List.length_map]
          walk_at "go"
          refine ite2 (fun h1 => ?_) (fun h1 => ?_)
          · walk_at "go"
            refine ⟨c, rfl, ?_⟩
            walk_at "go"
            refine w_pow ⟨by decide, by decide, by decide⟩ ?_
            walk_at "go"
            refine ite2 (fun h2 => ?_) (fun h2 => ?_)
            · walk_at "go"
              refine ⟨c, rfl, ?_⟩
              refine w_mul (.inl ⟨by decide, by decide⟩) ?_
              walk_at "go"
              refine .inr ⟨_, rfl, ?_⟩
              walk_at "go"
              refine w_fdiv ⟨hm, hm2⟩ ?_
              walk_at "go"
              refine w_setG hp2 rfl rfl fun H3 hp3 e3 => ?_
              walk_at "go"
              exact fin _ _ _ (Int.emod_nonneg _ (by omega)) (Int.emod_lt_of_pos _ hm) hp3 e3
            · walk_at "go"
              exact ⟨rfl, rfl⟩
          · walk_at "go"
            refine ite2 (fun h2 => absurd h2 (by decide)) (fun h2 => ?_)
            walk_at "go"
            exact ⟨rfl, rfl⟩
        · rintro σ' H' ⟨rfl, rfl⟩
          have an : 0 ≤ (a : Int) := Int.natCast_nonneg _
          have a2 : (a : Int) ≤ 100000 := by omega
          walk_at "go"
          refine w_mul (.inl ⟨by decide, by decide⟩) ?_
          walk_at "go"
          have q0 : 0 ≤ c % 2147483579 := Int.emod_nonneg _ (by decide)
          have q1 : c % 2147483579 < 2147483579 := Int.emod_lt_of_pos _ (by decide)
          refine w_pow ⟨by decide, by decide, by omega⟩ ?_
          walk_at "go"
          generalize hx : (c % 2147483579 + 57131 * (a : Int) + 211) ^ Int.toNat 5 % 2147483629 = x
          have x0 : 0 ≤ x := by rw [← hx]; exact Int.emod_nonneg _ (by decide)
          have x1 : x < 2147483629 := by rw [← hx]; exact Int.emod_lt_of_pos _ (by decide)
          refine w_mul (.inl ⟨by omega, by omega⟩) ?_
          walk_at "go"
          refine w_mul (.inl ⟨by decide, by decide⟩) ?_
          walk_at "go"
          refine w_mul (.inr ⟨by omega, by omega⟩) ?_
          walk_at "go"
          have y0 : 0 ≤ x * ((a : Int) + 64007) := Int.mul_nonneg x0 (by omega)
          have y1 : x * ((a : Int) + 64007) ≤ 2147483629 * 164007 := Int.mul_le_mul (by omega) (by omega) (by omega) (by decide)
          have z0 : 0 ≤ 91009 * (a : Int) * (a : Int) := Int.mul_nonneg (by omega) an
          have z1 : 91009 * (a : Int) * (a : Int) ≤ 91009 * 100000 * 100000 := Int.mul_le_mul (by omega) a2 an (by decide)
          refine w_pow ⟨by decide, by decide, by omega⟩ ?_
          walk_at "go"
          refine w_fdiv ⟨by decide, by decide⟩ ?_
          walk_at "go"
          exact fin _ r _ (Int.emod_nonneg _ (by omega)) (Int.emod_lt_of_pos _ hm) hp2 fun _ _ => rfl
theorem cut_ints (ns : List Int) (lo hi : Option Int) : ∃ ms : List Int, cutV (ns.map V.int) lo hi = ms.map V.int ∧ ms.length ≤ ns.length := by
  unfold cutV
  refine ⟨(ns.drop (HT.sIx (ns.map V.int).length 0 lo)).take (HT.sIx (ns.map V.int).length (ns.map V.int).length hi - HT.sIx (ns.map V.int).length 0 lo), ?_, ?_⟩
  · rw [List.map_take, List.map_drop]
  · rw [List.length_take, List.length_drop]
    omega
def spPen (K : PySem.W.Frag) : Sp := fun vs H Q _ => ∃ (a : Addr) (ns : List Int), vs = [.ref a] ∧ SqL K H a (ns.map V.int) ∧ ns.length ≤ 63 ∧
  ∀ (p l : Addr) (cells : List Int) (H' : Hp), H p = none → PenC 0 p l cells H' → Same H H' → Q (.ref p) H'
theorem ok_pen (D : DefAt K mg "_law_pen" s__law_pen ["_law_script"]) (B : Bi mg) : Cal P w K mg base 1 "_law_pen" (spPen K) := by
  refine D.cal sc__law_pen (fun vs H Q E h => ?_) (fun f cdv A outer s H vs Q E rm gd h => ?_)
  · obtain ⟨a, ns, rfl, _⟩ := h
    rfl
  · obtain ⟨a, ns, rfl, hs, hl, k⟩ := h
    obtain ⟨ms, em, lm⟩ := cut_ints ns none (some 63)
    refine ⟨_, (pss_one (ps_ret (pe_lst (pa_cons (pe_callTy call_list_of (by rfl) B.g_list (by decide +kernel) (pa_cons (pe_slice sl_list (pv 0) po_none (po_some pe_int)) pa_nil)) (pa_cons pe_int (pa_cons pe_int pa_nil)))))), ?_⟩
    walk_at "go"
    refine ⟨_, rfl, _, rfl, a, ns.map .int, rfl, hs, fun p1 n1 => ?_⟩
    rw [em]
    have s1 : Same H (upd H p1 (.lst (ms.map V.int))) := fun b u e => by rw [upd_ne (ne_of_none e n1)]; exact e
    walk_at "go"
    refine ⟨p1, ms.map .int, rfl, .inl (SqL.of upd_same), fun l nl => ?_⟩
    have s2 : Same (upd H p1 (.lst (ms.map V.int))) (upd (upd H p1 (.lst (ms.map V.int))) l (.lst (ms.map V.int))) := fun b u e => by rw [upd_ne (ne_of_none e nl)]; exact e
    walk_at "go"
    refine new (by show 3 ≤ sizeLine; decide) fun p H3 np h3 s3 => ?_
    exact k p l ms H3 (s1.free (s2.free np)) ⟨by omega, s3 _ _ upd_same, 0, 0, Nat.le_refl _, h3⟩ (s1.trans (s2.trans s3))
end
end Law

set_option Elab.async false
set_option linter.all false
set_option maxRecDepth 100000
set_option maxHeartbeats 4000000
namespace Law
open PySem PySem.Spec PyProof.Rows L2 KG
local macro_rules | `(tactic| walk_at "1") => `(tactic| first
  | (with_reducible refine w_var rfl ?_) | (with_reducible refine w_c ?_) | (with_reducible refine w_seq ?_) | (with_reducible refine w_asg ?_) | (with_reducible refine w_gname ?_) | (with_reducible refine w_op ?_) | (with_reducible refine w_un ?_)
  | (with_reducible refine w_add ?_) | (with_reducible refine w_sub ?_) | ((with_reducible refine' w_mod ?mo ?_); (case mo => first | assumption | decide | omega)) | (with_reducible refine w_and ?_) | (with_reducible refine w_or ?_) | (with_reducible refine w_xor ?_)
  | (with_reducible refine w_gt ?_) | (with_reducible refine w_lt ?_) | (with_reducible refine w_ge ?_) | (with_reducible refine w_le ?_) | ((with_reducible refine' w_eq ?sc ?_); (case sc => rfl)) | ((with_reducible refine' w_ne ?sc ?_); (case sc => rfl))
  | (with_reducible refine w_ret ?_) | (with_reducible refine w_next ?_) | (with_reducible refine w_ifs ?_) | (with_reducible refine w_ifx ?_) | (with_reducible refine w_test ?_) | (with_reducible refine w_tB ?_) | (with_reducible refine w_bl ?_)
  | ((with_reducible refine' w_ixL ?ixh ?ixa ?_); (case ixh => first | exact SqL.of (by assumption)); (case ixa => first | rfl | skip)) | ((with_reducible refine' w_ixT ?ixh ?ixa ?_); (case ixh => first | exact SqT.of (by assumption)); (case ixa => first | rfl | skip))
  | ((with_reducible refine' w_fld ?_)) | ((with_reducible refine' fld ?fh ?fc ?fn ?fl ?_); (case fh => assumption); (case fc => assumption); (case fn => assumption); (case fl => rfl)) | (with_reducible refine w_sfld ?_)
  | (with_reducible refine Or.inl ⟨_, rfl, ?_⟩) | (with_reducible refine w_gsub ?_) | (with_reducible refine w_andV ?_) | (with_reducible refine w_orV ?_)
  | (with_reducible refine w_nil ?_) | (with_reducible refine w_cons ?_) | (with_reducible refine w_tup ?_) | (with_reducible refine w_lst ?_) | (with_reducible refine w_and2 ?_) | (with_reducible refine w_or2 ?_) | (with_reducible refine w_not ?_) | (with_reducible refine w_cb ?_) | (with_reducible refine w_call ?_) | (with_reducible refine w_par ?_) | (with_reducible refine w_pnil ?_) | (with_reducible refine w_pcons ?_) | (with_reducible refine w_dput ?_) | (with_reducible refine w_dget ?_) | (with_reducible refine w_for ?_) | (with_reducible refine w_itup ?_) | (with_reducible refine w_ilist ?_) | (with_reducible refine w_irng ?_) | (with_reducible refine w_meth ?_) | (with_reducible refine w_make ?_) | (with_reducible refine w_makeK ?_) | (with_reducible refine w_methK ?_) | ((with_reducible refine' mth ?mh ?ml ?_); (case mh => assumption); (case ml => rfl)) | (with_reducible refine w_drop ?_))
local macro_rules | `(tactic| walk_at "go") => `(tactic| ((repeat (walk_at "1")); try dsimp only))
/-! ### the law's own helpers -/
def rdL (r : Str) (s : Int) : Int := if r = "take" then s - s % 2 else s
def wrL (w : Str) (s b : Int) : Int := if w = "once" then (if 1 < s then s else 2 + b) else (s - s % 2) + tabV w (s % 2) b
def dvL (d : Str) (s : Int) : List V := if d = "drift" ∨ (d = "raise" ∧ s % 2 = 0) ∨ (d = "end" ∧ s % 2 = 1) then [.int (s + 1 - 2 * (s % 2))] else []
def spRdL : Sp := fun vs H Q _ => ∃ (r : Str) (s : Int), vs = [.str r, .int s] ∧ Q (.int (rdL r s)) H
def spWrL : Sp := fun vs H Q _ => ∃ (w : Str) (s b : Int), vs = [.str w, .int s, .int b] ∧ w ∈ WR ∧ (b = 0 ∨ b = 1) ∧ ∀ H', Same H H' → Q (.int (wrL w s b)) H'
def spDvL : Sp := fun vs H Q _ => ∃ (d : Str) (s : Int), vs = [.str d, .int s] ∧ ∀ t H', H t = none → H' t = some (.tup (dvL d s)) → Same H H' → Q (.ref t) H'
def spWords : Sp := fun vs H Q _ => ∃ (p l : Addr) (cells : List Int) (n : Nat), vs = [.ref p] ∧ PenC n p l cells H ∧ n + 3 ≤ 100000 ∧
  ∀ (t : Addr) (r w d : Str) (H' : Hp), r ∈ RD → w ∈ WR → d ∈ DV → H t = none → H' t = some (.tup [.str r, .str w, .str d]) → PenC (n + 3) p l cells H' → Kp p H H' → Q (.ref t) H'
section
variable {P : Program} {w : World} {K : PySem.W.Frag} {mg : Str → Option Value} {base : Heap} {C aW aI : Addr} {mc : Value}
theorem dS (a b : Str) : decide (V.str a = V.str b) = decide (a = b) := by
  by_cases h : a = b
  · subst h
    rw [decide_eq_true rfl, decide_eq_true rfl]
  · rw [decide_eq_false h, decide_eq_false fun z => h (V.str.inj z)]
theorem dI (a b : Int) : decide (V.int a = V.int b) = decide (a = b) := by
  by_cases h : a = b
  · subst h
    rw [decide_eq_true rfl, decide_eq_true rfl]
  · rw [decide_eq_false h, decide_eq_false fun z => h (V.int.inj z)]
theorem ok_rdL (D : DefAt K mg "_law_read" s__law_read ["_law_first", "_law_stand"]) : Cal P w K mg base 1 "_law_read" spRdL := by
  refine D.cal sc__law_read (fun vs H Q E h => ?_) (fun f cdv A outer s H vs Q E rm gd h => ?_)
  · obtain ⟨r, s, rfl, _⟩ := h
    rfl
  · obtain ⟨r, s, rfl, q⟩ := h
    refine ⟨_, (pss_one (ps_ret (pe_ifExp (pt_cmpR op_eq (pv 0) pe_str (nomark _)) (pe_op op_sub (pv 1) (pe_op op_mod (pv 1) pe_int)) (pv 1)))), ?_⟩
    walk_at "go"
    rw [dS]
    unfold rdL at q
    by_cases e : r = "take"
    · rw [if_pos e] at q
      rw [decide_eq_true e]
      refine iteT ?_
      walk_at "go"
      exact q
    · rw [if_neg e] at q
      rw [decide_eq_false e]
      refine iteF ?_
      walk_at "go"
      exact q
theorem ok_dvL (D : DefAt K mg "_law_deeds" s__law_deeds ["_law_third", "_law_stand"]) : Cal P w K mg base 1 "_law_deeds" spDvL := by
  refine D.cal sc__law_deeds (fun vs H Q E h => ?_) (fun f cdv A outer s H vs Q E rm gd h => ?_)
  · obtain ⟨d, s, rfl, _⟩ := h
    rfl
  · obtain ⟨d, s, rfl, q⟩ := h
    refine ⟨_, (pss_mid (ps_if (PW.pt (pw_or (pt_cmpR op_eq (pv 0) pe_str (nomark _)) (pw_or (PW.pt (pw_and (pt_cmpR op_eq (pv 0) pe_str (nomark _)) (pw_and1 (pt_cmpR op_eq (pe_op op_mod (pv 1) pe_int) pe_int (nomark _))))) (pw_or1 (PW.pt (pw_and (pt_cmpR op_eq (pv 0) pe_str (nomark _)) (pw_and1 (pt_cmpR op_eq (pe_op op_mod (pv 1) pe_int) pe_int (nomark _)))))))))
      (pss_one (ps_ret (pe_tup (pa_cons (pe_op op_sub (pe_op op_add (pv 1) pe_int) (pe_op op_mul pe_int (pe_op op_mod (pv 1) pe_int))) pa_nil))))
      pss_nil)
    (pss_one (ps_ret (pe_tup pa_nil)))), ?_⟩
    refine w_mid (fun σ' H' => H' = H ∧ σ' = [some (.str d), some (.int s)] ∧ ¬ (d = "drift" ∨ (d = "raise" ∧ s % 2 = 0) ∨ (d = "end" ∧ s % 2 = 1))) ?_ ?_
    · have yes : (d = "drift" ∨ (d = "raise" ∧ s % 2 = 0) ∨ (d = "end" ∧ s % 2 = 1)) → dvL d s = [.int (s + 1 - 2 * (s % 2))] := fun h => if_pos h
      walk_at "go"
      rw [dS]
      refine ite2 (fun h1 => ?_) (fun h1 => ?_)
      · refine iteT ?_
        walk_at "go"
        refine w_mul (.inl ⟨by decide, by decide⟩) ?_
        walk_at "go"
        refine new (by show 1 ≤ sizeLine; decide) fun t H1 n1 h9 s1 => ?_
        rw [yes (.inl (of_decide_eq_true h1))] at q
        exact q t H1 n1 h9 s1
      walk_at "go"
      rw [dS]
      have a1 : ¬ d = "drift" := fun z => h1 (decide_eq_true z)
      refine ite2 (fun h2 => ?_) (fun h2 => ?_)
      · have a2 : d = "raise" := of_decide_eq_true h2
        walk_at "go"
        rw [dI]
        refine ite2 (fun h3 => ?_) (fun h3 => ?_)
        · refine iteT ?_
          walk_at "go"
          refine w_mul (.inl ⟨by decide, by decide⟩) ?_
          walk_at "go"
          refine new (by show 1 ≤ sizeLine; decide) fun t H1 n1 h1 s1 => ?_
          rw [yes (.inr (.inl ⟨a2, of_decide_eq_true h3⟩))] at q
          exact q t H1 n1 h1 s1
        · walk_at "go"
          rw [dS]
          refine ite2 (fun h4 => absurd (a2.symm.trans (of_decide_eq_true h4)) (by decide)) (fun h4 => ?_)
          refine iteF ?_
          walk_at "go"
          exact ⟨rfl, rfl, fun z => z.elim a1 fun z => z.elim (fun z => h3 (decide_eq_true z.2)) fun z => h4 (decide_eq_true z.1)⟩
      · have a2 : ¬ d = "raise" := fun z => h2 (decide_eq_true z)
        refine iteF ?_
        walk_at "go"
        rw [dS]
        refine ite2 (fun h3 => ?_) (fun h3 => ?_)
        · have a3 : d = "end" := of_decide_eq_true h3
          walk_at "go"
          rw [dI]
          refine ite2 (fun h4 => ?_) (fun h4 => ?_)
          · walk_at "go"
            refine w_mul (.inl ⟨by decide, by decide⟩) ?_
            walk_at "go"
            refine new (by show 1 ≤ sizeLine; decide) fun t H1 n1 h1 s1 => ?_
            rw [yes (.inr (.inr ⟨a3, of_decide_eq_true h4⟩))] at q
            exact q t H1 n1 h1 s1
          · walk_at "go"
            exact ⟨rfl, rfl, fun z => z.elim a1 fun z => z.elim (fun z => a2 z.1) fun z => h4 (decide_eq_true z.2)⟩
        · refine iteF ?_
          walk_at "go"
          exact ⟨rfl, rfl, fun z => z.elim a1 fun z => z.elim (fun z => a2 z.1) fun z => h3 (decide_eq_true z.1)⟩
    · rintro σ' H' ⟨rfl, rfl, no⟩
      walk_at "go"
      refine new (by show 0 ≤ sizeLine; decide) fun t H1 n1 h1 s1 => ?_
      unfold dvL at q
      rw [if_neg no] at q
      exact q t H1 n1 h1 s1
theorem ok_wrL (D : DefAt K mg "_law_write" s__law_write ["_law_second_word", "_law_stand", "_law_sign"]) : Cal P w K mg base 1 "_law_write" spWrL := by
  refine D.cal sc__law_write (fun vs H Q E h => ?_) (fun f cdv A outer s H vs Q E rm gd h => ?_)
  · obtain ⟨wr, s, b, rfl, _⟩ := h
    rfl
  · obtain ⟨wr, s, b, rfl, hw, hb, q⟩ := h
    have hu := hu_of rm
    refine ⟨_, (pss_cons (ps_par (i := 3) (j := 4) rfl sc__law_write.nd rfl rfl (by decide) rfl rfl (pa_cons (pe_op op_mod (pv 1) pe_int) (pa_cons (pe_op op_sub (pv 1) (pe_op op_mod (pv 1) pe_int)) pa_nil)) (by rfl))
    (pss_cons (ps_if (pt_cmpR op_eq (pv 0) pe_str (nomark _))
      (pss_one (ps_ret (pe_ifExp (pt_cmpR op_gt (pv 1) pe_int (nomark _)) (pv 1) (pe_op op_add pe_int (pv 2)))))
      pss_nil)
    (pss_cons (ps_set (i := 5) sc__law_write.nd rfl (Or.inl rfl) (pe_disp (pps_cons pe_str (pe_tup (pa_cons pe_int (pa_cons pe_int pa_nil))) (pps_cons pe_str (pe_tup (pa_cons (pv 3) (pa_cons pe_int pa_nil))) (pps_cons pe_str (pe_tup (pa_cons pe_int (pa_cons (pv 3) pa_nil))) (pps_cons pe_str (pe_tup (pa_cons (pv 3) (pa_cons pe_int pa_nil))) (pps_cons pe_str (pe_tup (pa_cons (pv 3) (pa_cons (pv 3) pa_nil))) pps_nil))))) (by rfl) (by rfl) (fun z => by cases z) (by decide)))
    (pss_cons (ps_dput hu (pv 5) pe_str (pe_tup (pa_cons (pv 3) (pa_cons (pe_op op_sub pe_int (pv 3)) pa_nil))) rfl)
    (pss_one (ps_ret (pe_op op_add (pv 4) (pe_ix ix_tup (pe_dget hu (pv 5) (pv 0) (fun _ _ => rfl)) (pv 2) (fun _ _ => rfl))))))))), ?_⟩
    walk_at "go"
    refine ⟨_, _, rfl, ?_⟩
    walk_at "go"
    rw [dS]
    refine ite2 (fun h1 => ?_) (fun h1 => ?_)
    · have e : wr = "once" := of_decide_eq_true h1
      have q := q H (Same.refl _)
      unfold wrL at q
      rw [if_pos e] at q
      walk_at "go"
      refine ite2 (fun h2 => ?_) (fun h2 => ?_)
      · rw [if_pos (of_decide_eq_true h2)] at q
        walk_at "go"
        exact q
      · rw [if_neg (fun z => h2 (decide_eq_true z))] at q
        walk_at "go"
        exact q
    · have e : ¬ wr = "once" := fun z => h1 (decide_eq_true z)
      walk_at "go"
      refine w_disp fun p H1 n1 h1 s1 => ?_
      walk_at "go"
      refine new (by show 2 ≤ sizeLine; decide) fun t1 H2 n2 h2 s2 => ?_
      walk_at "go"
      refine new (by show 2 ≤ sizeLine; decide) fun t2 H3 n3 h3 s3 => ?_
      walk_at "go"
      refine new (by show 2 ≤ sizeLine; decide) fun t3 H4 n4 h4 s4 => ?_
      walk_at "go"
      refine new (by show 2 ≤ sizeLine; decide) fun t4 H5 n5 h5 s5 => ?_
      walk_at "go"
      refine new (by show 2 ≤ sizeLine; decide) fun t5 H6 n6 h6 s6 => ?_
      walk_at "go"
      have sB := s2.trans (s3.trans (s4.trans (s5.trans s6)))
      refine dall [(.inr "store", .ref t1), (.inr "clear1", .ref t2), (.inr "clear0", .ref t3), (.inr "set1", .ref t4), (.inr "none", .ref t5)] (sB _ _ h1) rfl (by show 5 ≤ 15; decide) rfl fun H7 h7 e7 => ?_
      walk_at "go"
      refine new (by show 2 ≤ sizeLine; decide) fun t6 H8 n8 h8 s8 => ?_
      walk_at "go"
      refine dput (.inr "flip1") (s8 _ _ h7) (by show 5 < sizeLine; decide) rfl fun H9 h9 e9 => ?_
      walk_at "go"
      have to7 : ∀ {t : Addr} {xs : List V}, H6 t = some (.tup xs) → H9 t = some (.tup xs) := fun {t xs} h => by
        have a1 : t ≠ p := ne_of h (sB _ _ h1) (by intro z; cases z)
        rw [e9 t a1]
        exact s8 _ _ ((e7 t a1).trans h)
      have g1 := to7 (s6 _ _ (s5 _ _ (s4 _ _ (s3 _ _ h2))))
      have g2 := to7 (s6 _ _ (s5 _ _ (s4 _ _ h3)))
      have g3 := to7 (s6 _ _ (s5 _ _ h4))
      have g4 := to7 (s6 _ _ h5)
      have g5 := to7 h6
      have g6 : H9 t6 = some (.tup [.int (s % 2), .int (1 - s % 2)]) := by
        have a1 : t6 ≠ p := ne_of h8 (s8 _ _ h7) (by intro z; cases z)
        exact (e9 t6 a1).trans h8
      have sC : Same H H9 := fun b o hb => by
        have a1 : b ≠ p := ne_of_none hb n1
        rw [e9 b a1]
        refine s8 _ _ ((e7 b a1).trans (sB _ _ (s1 _ _ hb)))
      have q := q H9 sC
      unfold wrL at q
      rw [if_neg e] at q
      have get : ∀ (t : Addr) (x y : Int) (σ : L2.St) (QQ : VK), H9 t = some (.tup [.int x, .int y]) → QQ (.int (if b = 0 then x else y)) H9 → rIxT K (.ref t) (.int b) H9 QQ := fun t x y σ QQ ht hq => by
        rcases hb with rfl | rfl
        · exact w_ixT (SqT.of ht) rfl hq
        · exact w_ixT (SqT.of ht) rfl hq
      have tv : ∀ v : Int, tabV wr v b = (if b = 0 then tabV wr v 0 else tabV wr v 1) := fun v => by
        rcases hb with rfl | rfl <;> rfl
      simp only [WR, List.mem_cons, List.not_mem_nil, or_false] at hw
      rcases hw with rfl | rfl | rfl | rfl | rfl | rfl | rfl
      · refine dget (.inr "store") h9 rfl ?_
        walk_at "go"
        refine get t1 _ _ [] _ g1 ?_
        walk_at "go"
        rw [tv] at q
        exact q
      · refine dget (.inr "clear1") h9 rfl ?_
        walk_at "go"
        refine get t2 _ _ [] _ g2 ?_
        walk_at "go"
        rw [tv] at q
        exact q
      · refine dget (.inr "clear0") h9 rfl ?_
        walk_at "go"
        refine get t3 _ _ [] _ g3 ?_
        walk_at "go"
        rw [tv] at q
        exact q
      · refine dget (.inr "set1") h9 rfl ?_
        walk_at "go"
        refine get t4 _ _ [] _ g4 ?_
        walk_at "go"
        rw [tv] at q
        exact q
      · refine dget (.inr "flip1") h9 rfl ?_
        walk_at "go"
        refine get t6 _ _ [] _ g6 ?_
        walk_at "go"
        rw [tv] at q
        exact q
      · exact absurd rfl e
      · refine dget (.inr "none") h9 rfl ?_
        walk_at "go"
        refine get t5 _ _ [] _ g5 ?_
        walk_at "go"
        rw [tv] at q
        exact q
theorem PenC.same {n : Nat} {p l : Addr} {cells : List Int} {H H' : Hp} (h : PenC n p l cells H) (s : Same H H') : PenC n p l cells H' := by
  obtain ⟨a, b, c, d, e, f⟩ := h
  exact ⟨a, s _ _ b, c, d, e, s _ _ f⟩
theorem at_strs {l : List Str} {i : Int} (h0 : 0 ≤ i) (h1 : i < (l.length : Int)) : ∃ x, x ∈ l ∧ atI (l.map V.str) i = some (.str x) := by
  have h : i.toNat < l.length := by omega
  refine ⟨l[i.toNat], List.getElem_mem h, at_of (j := i.toNat) (by omega) ?_⟩
  rw [List.getElem?_map, List.getElem?_eq_getElem h]
  rfl
theorem ok_words (D : DefAt K mg "_law_words" s__law_words ["_law_pen_here"]) (c_law_draw : Cal P w K mg base 1 "_law_draw" spDraw) : Cal P w K mg base 2 "_law_words" spWords := by
  refine D.cal sc__law_words (fun vs H Q E h => ?_) (fun f cdv A outer s H vs Q E rm gd h => ?_)
  · obtain ⟨p, l, cells, n, rfl, _⟩ := h
    rfl
  · obtain ⟨p, l, cells, n, rfl, pen, hn, q⟩ := h
    refine ⟨_, (pss_cons (ps_set (i := 1) sc__law_words.nd rfl (Or.inl rfl) (pe_tup (pa_cons pe_str (pa_cons pe_str (pa_cons pe_str (pa_cons pe_str (pa_cons pe_str (pa_cons pe_str (pa_cons pe_str pa_nil)))))))))
    (pss_cons (ps_set (i := 2) sc__law_words.nd rfl (Or.inl rfl) (pe_ix ix_tup (pe_tup (pa_cons pe_str (pa_cons pe_str pa_nil))) (pc c_law_draw rm (by decide) gd rfl (pa_cons (pv 0) (pa_cons pe_int pa_nil))) (fun _ _ => rfl)))
    (pss_one (ps_ret (pe_tup (pa_cons (pv 2) (pa_cons (pe_ix ix_tup (pv 1) (pc c_law_draw rm (by decide) gd rfl (pa_cons (pv 0) (pa_cons pe_int pa_nil))) (fun _ _ => rfl)) (pa_cons (pe_ix ix_tup (pe_tup (pa_cons pe_str (pa_cons pe_str (pa_cons pe_str (pa_cons pe_str pa_nil))))) (pc c_law_draw rm (by decide) gd rfl (pa_cons (pv 0) (pa_cons pe_int pa_nil))) (fun _ _ => rfl)) pa_nil)))))))), ?_⟩
    walk_at "go"
    refine new (by show 7 ≤ sizeLine; decide) fun t1 H1 n1 h1 s1 => ?_
    walk_at "go"
    refine new (by show 2 ≤ sizeLine; decide) fun t2 H2 n2 h2 s2 => ?_
    walk_at "go"
    refine ⟨p, l, cells, n, 2, rfl, (pen.same s1).same s2, by omega, by decide, by decide, fun i1 H3 b0 b1 pen1 k1 => ?_⟩
    have pn : ∀ {t : Addr} {xs : List V} {m : Nat} {G : Hp}, G t = some (.tup xs) → PenC m p l cells G → t ≠ p := fun h ⟨_, _, _, _, _, z⟩ => ne_of h z (by intro y; cases y)
    have h2' := k1 _ _ h2 (pn h2 ((pen.same s1).same s2))
    have h1' := k1 _ _ (s2 _ _ h1) (pn (s2 _ _ h1) ((pen.same s1).same s2))
    obtain ⟨r, hr, er⟩ := at_strs (l := RD) b0 b1
    refine w_ixT (SqT.of h2') er ?_
    walk_at "go"
    refine ⟨p, l, cells, n + 1, 7, rfl, pen1, by omega, by decide, by decide, fun i2 H4 c0 c1 pen2 k2 => ?_⟩
    obtain ⟨wr, hw, ew⟩ := at_strs (l := WR) c0 c1
    refine w_ixT (SqT.of (k2 _ _ h1' (pn h1' pen1))) ew ?_
    walk_at "go"
    refine new (by show 4 ≤ sizeLine; decide) fun t3 H5 n5 h5 s5 => ?_
    walk_at "go"
    refine ⟨p, l, cells, n + 2, 4, rfl, pen2.same s5, by omega, by decide, by decide, fun i3 H6 e0 e1 pen3 k3 => ?_⟩
    obtain ⟨d, hd, ed⟩ := at_strs (l := DV) e0 e1
    refine w_ixT (SqT.of (k3 _ _ h5 (pn h5 (pen2.same s5)))) ed ?_
    walk_at "go"
    refine new (by show 3 ≤ sizeLine; decide) fun t7 H7 n7 h7 s7 => ?_
    have kAll : Kp p H H7 := fun b o hb nb => s7 _ _ (k3 _ _ (s5 _ _ (k2 _ _ (k1 _ _ (s2 _ _ (s1 _ _ hb)) nb) nb)) nb)
    have nt : H t7 = none := by
      cases z : H t7 with
      | none => rfl
      | some o =>
        by_cases e : t7 = p
        · obtain ⟨_, _, _, _, _, zp⟩ := pen3
          rw [e] at n7
          rw [n7] at zp
          cases zp
        · have y := k3 _ _ (s5 _ _ (k2 _ _ (k1 _ _ (s2 _ _ (s1 _ _ z)) e) e)) e
          rw [n7] at y
          cases y
    exact q t7 r wr d H7 hr hw hd nt h7 (pen3.same s7) kAll
/-! ### one state -/
def Kall (P : Program) (w : World) (K : PySem.W.Frag) (mg : Str → Option Value) (base : Heap) (C : Addr) : Prop :=
  (∃ f, MetK P w K mg base 1 C "after_read" f ["state"] [0] (spAR C)) ∧ (∃ f, Met P w K mg base 2 C "after_write" f (spAW C)) ∧ (∃ f, MetK P w K mg base 2 C "after_write" f ["bit", "state"] [1, 0] (spAW C)) ∧
  (∃ f, MetK P w K mg base 1 C "unguarded" f ["bit", "state"] [1, 0] (spUN C)) ∧ (∃ f, MetK P w K mg base 1 C "deeds" f ["state"] [0] (spDE C))
def St (w : Str) (s : Int) : Prop := s = 0 ∨ s = 1 ∨ (w = "once" ∧ (s = 2 ∨ s = 3))
theorem St.four {w : Str} {s : Int} (h : St w s) : St4 s := by
  rcases h with h | h | ⟨_, h | h⟩
  · exact .inl h
  · exact .inr (.inl h)
  · exact .inr (.inr (.inl h))
  · exact .inr (.inr (.inr h))
def spRight (C : Addr) : Sp := fun vs H Q _ => ∃ (k t : Addr) (r w d : Str) (s : Int), vs = [.ref k, .ref t, .int s] ∧ KindAt C H k r w d ∧ H t = some (.tup [.str r, .str w, .str d]) ∧ r ∈ RD ∧ w ∈ WR ∧ d ∈ DV ∧ St w s ∧ ∀ H', Same H H' → Q (.bl true) H'
theorem KindAt.same {C : Addr} {H H' : Hp} {k : Addr} {r w d : Str} (s : Same H H') (h : KindAt C H k r w d) : KindAt C H' k r w d := by
  obtain ⟨dx, st, a, b⟩ := h
  exact ⟨dx, st, s _ _ a, s _ _ b⟩
theorem rd_eq {r : Str} {s : Int} (h : St4 s) : rdF r s = rdL r s := by
  unfold rdF rdL
  split
  · rcases h with rfl | rfl | rfl | rfl <;> decide
  · rfl
theorem dv_eq {d : Str} {s : Int} (hd : d ∈ DV) (h : St4 s) : dvF d s = dvL d s := by
  simp only [DV, List.mem_cons, List.not_mem_nil, or_false] at hd
  rcases hd with rfl | rfl | rfl | rfl <;> rcases h with rfl | rfl | rfl | rfl <;> decide +kernel
theorem wr_eq {w : Str} {s b : Int} (hw : w ∈ WR) (h : St w s) (hb : b = 0 ∨ b = 1) : awF w s b = wrL w s b := by
  by_cases e : w = "once"
  · subst e
    rcases h.four with rfl | rfl | rfl | rfl <;> rcases hb with rfl | rfl <;> decide +kernel
  · have h2 : s = 0 ∨ s = 1 := by
      rcases h with h | h | h
      · exact .inl h
      · exact .inr h
      · exact absurd h.1 e
    unfold awF wrL
    rw [if_neg e]
    rcases h2 with rfl | rfl <;> simp [Builtin.bitAnd, show Builtin.bitAnd 0 2 = 0 from by decide, show Builtin.bitAnd 0 1 = 0 from by decide, show Builtin.bitAnd 1 2 = 0 from by decide, show Builtin.bitAnd 1 1 = 1 from by decide]
theorem un_eq {w : Str} {s b : Int} (hw : w ∈ WR) (h : St w s) (hb : b = 0 ∨ b = 1) : tabV w (Builtin.bitAnd s 1) b = (if w = "once" then 2 + b else wrL w s b) := by
  by_cases e : w = "once"
  · subst e
    rcases h.four with rfl | rfl | rfl | rfl <;> rcases hb with rfl | rfl <;> decide +kernel
  · have h2 : s = 0 ∨ s = 1 := by
      rcases h with h | h | h
      · exact .inl h
      · exact .inr h
      · exact absurd h.1 e
    unfold wrL
    rw [if_neg e, if_neg e]
    rcases h2 with rfl | rfl <;> simp [show Builtin.bitAnd 0 1 = 0 from by decide, show Builtin.bitAnd 1 1 = 1 from by decide]
theorem dv_data {K : PySem.W.Frag} {H : Hp} {t : Addr} {d : Str} {s : Int} (h : H t = some (.tup (dvL d s))) : ∃ x : PyData, Dp K H (.ref t) x ∧ SeqAt.shaped x = true ∧ x.canLay0 = true ∧ (∀ t' H', H' t' = some (.tup (dvL d s)) → Dp K H' (.ref t') x) := by
  unfold dvL at h ⊢
  split at h
  · rename_i c
    refine ⟨.tuple [.int (s + 1 - 2 * (s % 2))], .tup (SqT.of h) (.cons (.int _) .nil), ?_, ?_, fun t' H' h' => ?_⟩
    · simp [SeqAt.shaped, PyData.canLay0, PyData.canLayAll0, PyData.depth, PyData.depthAll]
    · simp [PyData.canLay0, PyData.canLayAll0]
    · rw [if_pos c] at h'
      exact .tup (SqT.of h') (.cons (.int _) .nil)
  · rename_i c
    refine ⟨.tuple [], .tup (SqT.of h) .nil, by decide +kernel, by decide +kernel, fun t' H' h' => ?_⟩
    rw [if_neg c] at h'
    exact .tup (SqT.of h') .nil
theorem ok_right (D : DefAt K mg "_law_state_right" s__law_state_right ["_law_kind", "_law_words_here", "_law_stand"]) (T : KT K w mg C aW aI mc) (M : Kall P w K mg base C)
    (c_law_read : Cal P w K mg base 1 "_law_read" spRdL) (c_law_deeds : Cal P w K mg base 1 "_law_deeds" spDvL) (c_law_write : Cal P w K mg base 1 "_law_write" spWrL) : Cal P w K mg base 3 "_law_state_right" (spRight C) := by
  obtain ⟨⟨f1, mAR⟩, ⟨f2, mAW⟩, ⟨f3, mAWK⟩, ⟨f4, mUNK⟩, ⟨f5, mDE⟩⟩ := M
  refine D.cal sc__law_state_right (fun vs H Q E h => ?_) (fun f cdv A outer s H vs Q E rm gd h => ?_)
  · obtain ⟨k, t, r, w, d, s, rfl, _⟩ := h
    rfl
  · obtain ⟨k, t, r, wr, d, s, rfl, hk, ht, hr, hw, hd, hs, q⟩ := h
    obtain ⟨dx, st, hk1, hst⟩ := id hk
    have h4 := hs.four
    refine ⟨_, (pss_cons (ps_asg (pv 1) (pg_tup rfl (pgs_cons (pg_name (i := 3) sc__law_state_right.nd rfl (Or.inl rfl)) (pgs_cons (pg_name (i := 4) sc__law_state_right.nd rfl (Or.inl rfl)) (pgs_cons (pg_name (i := 5) sc__law_state_right.nd rfl (Or.inl rfl)) pgs_nil)))))
    (pss_mid (ps_if (PW.pt (pw_or (pt_cmpR op_ne (pmK mAR T.cl rm (by decide) gd (pv 0) (pk_cons (pv 2) pk_nil)) (pc c_law_read rm (by decide) gd rfl (pa_cons (pv 3) (pa_cons (pv 2) pa_nil))) (nomark _)) (pw_or1 (pt_cmpR (op_neD rm.units) (pmK mDE T.cl rm (by decide) gd (pv 0) (pk_cons (pv 2) pk_nil)) (pc c_law_deeds rm (by decide) gd rfl (pa_cons (pv 5) (pa_cons (pv 2) pa_nil))) (nomark _)))))
      (pss_one (ps_ret pe_bl))
      pss_nil)
    (pss_cons (ps_for PassesOwn.never rfl (pi_tup (pe_tup (pa_cons pe_int (pa_cons pe_int pa_nil)))) (pg_name (i := 6) sc__law_state_right.nd rfl (Or.inl rfl))
      (pss_cons (ps_set (i := 7) sc__law_state_right.nd rfl (Or.inl rfl) (pc c_law_write rm (by decide) gd rfl (pa_cons (pv 4) (pa_cons (pv 2) (pa_cons (pv 6) pa_nil)))))
      (pss_mid (ps_if (PW.pt (pw_or (pt_cmpR op_ne (pm mAW T.cl rm (by decide) gd (pv 0) (pa_cons (pv 2) (pa_cons (pv 6) pa_nil))) (pv 7) (nomark _)) (pw_or1 (pt_cmpR op_ne (pmK mAWK T.cl rm (by decide) gd (pv 0) (pk_cons (pv 6) (pk_cons (pv 2) pk_nil))) (pv 7) (nomark _)))))
        (pss_one (ps_ret pe_bl))
        pss_nil)
      (pss_one (ps_if (pt_cmpR op_ne (pmK mUNK T.cl rm (by decide) gd (pv 0) (pk_cons (pv 6) (pk_cons (pv 2) pk_nil))) (pe_ifExp (pt_cmpR op_eq (pv 4) pe_str (nomark _)) (pe_op op_add pe_int (pv 6)) (pv 7)) (nomark _))
        (pss_one (ps_ret pe_bl))
        pss_nil)))))
    (pss_one (ps_ret pe_bl))))), ?_⟩
    walk_at "go"
    refine ⟨t, _, rfl, SqT.of ht, rfl, _, _, rfl, _, _, rfl, _, _, rfl, rfl, ?_⟩
    refine w_mid (fun σ' H' => Same H H' ∧ σ' = [some (.ref k), some (.ref t), some (.int s), some (.str r), some (.str wr), some (.str d), none, none]) ?_ ?_
    · walk_at "go"
      refine ⟨rfl, k, r, wr, d, s, rfl, hk, ?_⟩
      walk_at "go"
      refine ⟨r, s, rfl, ?_⟩
      rw [rd_eq h4]
      walk_at "go"
      refine iteNS rfl ?_
      walk_at "go"
      refine ⟨rfl, k, r, wr, d, s, rfl, hk, hd, h4, fun t1 H1 n1 h1 s1 => ?_⟩
      rw [dv_eq hd h4] at h1
      walk_at "go"
      refine ⟨d, s, rfl, fun t2 H2 n2 h2 s2 => ?_⟩
      obtain ⟨x, d1, sh, cl, all⟩ := dv_data (K := K) (s2 _ _ h1)
      refine ⟨x, x, d1, all t2 H2 h2, sh, sh, ?_⟩
      rw [SeqAt.eqv_refl x cl]
      walk_at "go"
      refine iteF ?_
      walk_at "go"
      exact ⟨s1.trans s2, rfl⟩
    · rintro σ' H1 ⟨s1, rfl⟩
      walk_at "go"
      refine new (by show 2 ≤ sizeLine; decide) fun t2 H2 n2 h2 s2 => ?_
      refine over_t (SqT.of h2) (for_tup (xs := [.int 0, .int 1]) (fun i σ' H' => Same H2 H' ∧ ∃ v6 v7, σ' = [some (.ref k), some (.ref t), some (.int s), some (.str r), some (.str wr), some (.str d), v6, v7]) ⟨Same.refl _, none, none, rfl⟩ (fun i σ H' _ ⟨z, _⟩ => SqT.of (z _ _ h2)) ?_ ?_)
      · rintro i y σ' H3 hi ⟨s3, v6, v7, rfl⟩
        obtain ⟨b, hb, rfl⟩ : ∃ b : Int, (b = 0 ∨ b = 1) ∧ y = .int b := by
          match i, hi with
          | 0, hi =>
            cases hi
            exact ⟨0, .inl rfl, rfl⟩
          | 1, hi =>
            cases hi
            exact ⟨1, .inr rfl, rfl⟩
        walk_at "go"
        refine ⟨wr, s, b, rfl, hw, hb, fun H4 s4 => ?_⟩
        have hk4 := hk.same (s1.trans (s2.trans (s3.trans s4)))
        obtain ⟨dx4, st4, hk5, hst5⟩ := id hk4
        walk_at "go"
        refine w_mid (fun σ' H' => Same H2 H' ∧ σ' = [some (.ref k), some (.ref t), some (.int s), some (.str r), some (.str wr), some (.str d), some (.int b), some (.int (wrL wr s b))]) ?_ ?_
        · walk_at "go"
          refine ⟨k, r, wr, d, s, b, rfl, hk4, hw, h4, hb, ?_⟩
          rw [wr_eq hw hs hb]
          walk_at "go"
          refine iteNS rfl ?_
          walk_at "go"
          refine ⟨rfl, k, r, wr, d, s, b, rfl, hk4, hw, h4, hb, ?_⟩
          rw [wr_eq hw hs hb]
          walk_at "go"
          refine iteNS rfl ?_
          walk_at "go"
          exact ⟨s3.trans s4, rfl⟩
        · rintro σ' H5 ⟨s5, rfl⟩
          have hk6 := hk.same (s1.trans (s2.trans s5))
          obtain ⟨dx6, st6, hk7, hst7⟩ := id hk6
          walk_at "go"
          refine ⟨rfl, k, r, wr, d, s, b, rfl, hk6, hw, h4, hb, ?_⟩
          rw [un_eq hw hs hb]
          walk_at "go"
          rw [dS]
          by_cases e : wr = "once"
          · rw [decide_eq_true e, if_pos e]
            refine iteT ?_
            walk_at "go"
            refine iteNS rfl ?_
            walk_at "go"
            exact ⟨s5, _, _, rfl⟩
          · rw [decide_eq_false e, if_neg e]
            refine iteF ?_
            walk_at "go"
            refine iteNS rfl ?_
            walk_at "go"
            exact ⟨s5, _, _, rfl⟩
      · rintro σ' H3 ⟨s3, v6, v7, rfl⟩
        walk_at "go"
        exact q H3 (s1.trans (s2.trans s3))
/-! ### one step on -/
theorem st_rd {r w : Str} {s : Int} (h : St w s) : St w (rdL r s) := by
  unfold rdL
  split
  · rcases h with rfl | rfl | ⟨e, rfl | rfl⟩
    · exact .inl rfl
    · exact .inl rfl
    · exact .inr (.inr ⟨e, .inl rfl⟩)
    · exact .inr (.inr ⟨e, .inl rfl⟩)
  · exact h
theorem st_wr {w : Str} {s b : Int} (hw : w ∈ WR) (hb : b = 0 ∨ b = 1) (h : St w s) : St w (wrL w s b) := by
  by_cases e : w = "once"
  · unfold wrL
    rw [if_pos e]
    rcases h.four with rfl | rfl | rfl | rfl <;> rcases hb with rfl | rfl
    · exact .inr (.inr ⟨e, .inl rfl⟩)
    · exact .inr (.inr ⟨e, .inr rfl⟩)
    · exact .inr (.inr ⟨e, .inl rfl⟩)
    · exact .inr (.inr ⟨e, .inr rfl⟩)
    · exact .inr (.inr ⟨e, .inl rfl⟩)
    · exact .inr (.inr ⟨e, .inl rfl⟩)
    · exact .inr (.inr ⟨e, .inr rfl⟩)
    · exact .inr (.inr ⟨e, .inr rfl⟩)
  · have h2 : s = 0 ∨ s = 1 := by
      rcases h with h | h | h
      · exact .inl h
      · exact .inr h
      · exact absurd h.1 e
    have key : ∀ x ∈ WR, x ≠ "once" → (wrL x 0 0 = 0 ∨ wrL x 0 0 = 1) ∧ (wrL x 0 1 = 0 ∨ wrL x 0 1 = 1) ∧ (wrL x 1 0 = 0 ∨ wrL x 1 0 = 1) ∧ (wrL x 1 1 = 0 ∨ wrL x 1 1 = 1) := by decide +kernel
    obtain ⟨k1, k2, k3, k4⟩ := key w hw e
    have up : ∀ {z : Int}, z = 0 ∨ z = 1 → St w z := fun h => h.elim .inl fun h => .inr (.inl h)
    rcases h2 with rfl | rfl <;> rcases hb with rfl | rfl
    · exact up k1
    · exact up k2
    · exact up k3
    · exact up k4
theorem st_dv {w : Str} {s : Int} (h : St w s) : St w (s + 1 - 2 * (s % 2)) := by
  rcases h with rfl | rfl | ⟨e, rfl | rfl⟩
  · exact .inr (.inl rfl)
  · exact .inl rfl
  · exact .inr (.inr ⟨e, .inr rfl⟩)
  · exact .inr (.inr ⟨e, .inl rfl⟩)
def spOn : Sp := fun vs H Q _ => ∃ (p l t : Addr) (cells : List Int) (n : Nat) (r w d : Str) (s : Int), vs = [.ref p, .ref t, .int s] ∧ PenC n p l cells H ∧ n + 1 ≤ 100000 ∧ H t = some (.tup [.str r, .str w, .str d]) ∧ w ∈ WR ∧ St w s ∧
  ∀ (s' : Int) (H' : Hp), St w s' → PenC (n + 1) p l cells H' → Kp p H H' → Q (.int s') H'
theorem tup_ne {n : Nat} {p l t : Addr} {cells : List Int} {H : Hp} {xs : List V} (pen : PenC n p l cells H) (h : H t = some (.tup xs)) : t ≠ p := by
  obtain ⟨_, _, _, _, _, z⟩ := pen
  exact ne_of h z (by intro y; cases y)
theorem ok_on (D : DefAt K mg "_law_onward" s__law_onward ["_law_pen_here", "_law_words_here", "_law_stand"]) (c_law_draw : Cal P w K mg base 1 "_law_draw" spDraw)
    (c_law_read : Cal P w K mg base 1 "_law_read" spRdL) (c_law_deeds : Cal P w K mg base 1 "_law_deeds" spDvL) (c_law_write : Cal P w K mg base 1 "_law_write" spWrL) : Cal P w K mg base 2 "_law_onward" spOn := by
  refine D.cal sc__law_onward (fun vs H Q E h => ?_) (fun f cdv A outer s H vs Q E rm gd h => ?_)
  · obtain ⟨p, l, t, cells, n, r, w, d, s, rfl, _⟩ := h
    rfl
  · obtain ⟨p, l, t, cells, n, r, wr, d, s, rfl, pen, hn, ht, hw, hs, q⟩ := h
    refine ⟨_, (pss_cons (ps_set (i := 3) sc__law_onward.nd rfl (Or.inl rfl) (pc c_law_draw rm (by decide) gd rfl (pa_cons (pv 0) (pa_cons pe_int pa_nil))))
    (pss_cons (ps_if (pt_cmpR op_eq (pv 3) pe_int (nomark _))
      (pss_one (ps_ret (pc c_law_read rm (by decide) gd rfl (pa_cons (pe_ix ix_tup (pv 1) pe_int (fun _ _ => rfl)) (pa_cons (pv 2) pa_nil)))))
      pss_nil)
    (pss_cons (ps_if (pt_cmpR op_lt (pv 3) pe_int (nomark _))
      (pss_one (ps_ret (pc c_law_write rm (by decide) gd rfl (pa_cons (pe_ix ix_tup (pv 1) pe_int (fun _ _ => rfl)) (pa_cons (pv 2) (pa_cons (pe_op op_sub (pv 3) pe_int) pa_nil))))))
      pss_nil)
    (pss_one (ps_ret (pe_ix ix_tup (pe_op op_catA (pc c_law_deeds rm (by decide) gd rfl (pa_cons (pe_ix ix_tup (pv 1) pe_int (fun _ _ => rfl)) (pa_cons (pv 2) pa_nil))) (pe_tup (pa_cons (pv 2) pa_nil))) pe_int (fun _ _ => rfl))))))), ?_⟩
    walk_at "go"
    refine ⟨p, l, cells, n, 5, rfl, pen, by omega, by decide, by decide, fun i H1 b0 b1 pen1 k1 => ?_⟩
    have ht1 := k1 _ _ ht (tup_ne pen ht)
    walk_at "go"
    rw [dI]
    refine ite2 (fun h0 => ?_) (fun h0 => ?_)
    · walk_at "go"
      exact ⟨r, s, rfl, q _ H1 (st_rd hs) pen1 k1⟩
    · walk_at "go"
      refine ite2 (fun h1 => ?_) (fun h1 => ?_)
      · walk_at "go"
        have a0 : i ≠ 0 := fun z => h0 (decide_eq_true z)
        have a1 : i < 3 := of_decide_eq_true h1
        have hb : i - 1 = 0 ∨ i - 1 = 1 := by omega
        exact ⟨wr, s, i - 1, rfl, hw, hb, fun H2 s2 => q _ H2 (st_wr hw hb hs) (pen1.same s2) fun b o z nb => s2 _ _ (k1 b o z nb)⟩
      · walk_at "go"
        refine ⟨d, s, rfl, fun t2 H2 n2 h2 s2 => ?_⟩
        walk_at "go"
        refine new (by show 1 ≤ sizeLine; decide) fun t3 H3 n3 h3 s3 => ?_
        have lz : (dvL d s).length ≤ 1 := by
          unfold dvL
          split
          · exact Nat.le_refl 1
          · exact Nat.zero_le 1
        have kk : Kp p H H3 := fun b o z nb => s3 _ _ (s2 _ _ (k1 b o z nb))
        refine ⟨t2, t3, dvL d s, [.int s], rfl, rfl, SqT.of (s3 _ _ h2), SqT.of h3, Nat.le_trans (show (dvL d s).length + 1 ≤ 2 by omega) (by decide), fun z => ?_, fun _ z => (by cases z), fun z _ => fun t4 n4 => ?_⟩
        · walk_at "go"
          exact q s H3 hs ((pen1.same s2).same s3) kk
        · have s4 : Same H3 (upd H3 t4 (.tup (dvL d s ++ [.int s]))) := fun b o e => by rw [upd_ne (ne_of_none e n4)]; exact e
          have e2 : dvL d s = [.int (s + 1 - 2 * (s % 2))] := by
            unfold dvL at z ⊢
            split
            · rfl
            · rename_i c
              rw [if_neg c] at z
              exact absurd rfl z
          walk_at "go"
          refine w_ixT (SqT.of upd_same) (v := .int (s + 1 - 2 * (s % 2))) (by rw [e2]; rfl) ?_
          exact q _ _ (st_dv hs) (((pen1.same s2).same s3).same s4) fun b o y nb => s4 _ _ (kk b o y nb)
end
end Law

set_option Elab.async false
set_option linter.all false
set_option maxRecDepth 100000
set_option maxHeartbeats 4000000
namespace Law
open PySem PySem.Spec PyProof.Rows L2 KG
local macro_rules | `(tactic| walk_at "1") => `(tactic| first
  | (with_reducible refine w_var rfl ?_) | (with_reducible refine w_c ?_) | (with_reducible refine w_seq ?_) | (with_reducible refine w_asg ?_) | (with_reducible refine w_gname ?_) | (with_reducible refine w_op ?_) | (with_reducible refine w_un ?_)
  | (with_reducible refine w_add ?_) | (with_reducible refine w_sub ?_) | ((with_reducible refine' w_mod ?mo ?_); (case mo => first | assumption | decide | omega)) | (with_reducible refine w_and ?_) | (with_reducible refine w_or ?_) | (with_reducible refine w_xor ?_)
  | (with_reducible refine w_gt ?_) | (with_reducible refine w_lt ?_) | (with_reducible refine w_ge ?_) | (with_reducible refine w_le ?_) | ((with_reducible refine' w_eq ?sc ?_); (case sc => rfl)) | ((with_reducible refine' w_ne ?sc ?_); (case sc => rfl))
  | (with_reducible refine w_ret ?_) | (with_reducible refine w_next ?_) | (with_reducible refine w_ifs ?_) | (with_reducible refine w_ifx ?_) | (with_reducible refine w_test ?_) | (with_reducible refine w_tB ?_) | (with_reducible refine w_bl ?_)
  | ((with_reducible refine' w_ixL ?ixh ?ixa ?_); (case ixh => first | exact SqL.of (by assumption)); (case ixa => first | rfl | skip)) | ((with_reducible refine' w_ixT ?ixh ?ixa ?_); (case ixh => first | exact SqT.of (by assumption)); (case ixa => first | rfl | skip))
  | ((with_reducible refine' w_fld ?_)) | ((with_reducible refine' fld ?fh ?fc ?fn ?fl ?_); (case fh => assumption); (case fc => assumption); (case fn => assumption); (case fl => rfl)) | (with_reducible refine w_sfld ?_)
  | (with_reducible refine Or.inl ⟨_, rfl, ?_⟩) | (with_reducible refine w_gsub ?_) | (with_reducible refine w_andV ?_) | (with_reducible refine w_orV ?_)
  | (with_reducible refine w_nil ?_) | (with_reducible refine w_cons ?_) | (with_reducible refine w_tup ?_) | (with_reducible refine w_lst ?_) | (with_reducible refine w_and2 ?_) | (with_reducible refine w_or2 ?_) | (with_reducible refine w_not ?_) | (with_reducible refine w_cb ?_) | (with_reducible refine w_call ?_) | (with_reducible refine w_par ?_) | (with_reducible refine w_pnil ?_) | (with_reducible refine w_pcons ?_) | (with_reducible refine w_dput ?_) | (with_reducible refine w_dget ?_) | (with_reducible refine w_for ?_) | (with_reducible refine w_itup ?_) | (with_reducible refine w_ilist ?_) | (with_reducible refine w_irng ?_) | (with_reducible refine w_meth ?_) | (with_reducible refine w_make ?_) | (with_reducible refine w_makeK ?_) | (with_reducible refine w_methK ?_) | ((with_reducible refine' mth ?mh ?ml ?_); (case mh => assumption); (case ml => rfl)) | (with_reducible refine w_drop ?_))
local macro_rules | `(tactic| walk_at "go") => `(tactic| ((repeat (walk_at "1")); try dsimp only))
/-! ### the law -/
def stD (w : Str) : PyData := .tuple (if w = "once" then [.int 0, .int 1, .int 2, .int 3] else [.int 0, .int 1])
def kD (r w d : Str) : PyData := .tuple [.str r, .str w, .str d, stD w]
theorem kD_ok : ∀ r ∈ RD, ∀ w ∈ WR, ∀ d ∈ DV, (kD r w d).showable = true ∧ (kD r w d).hasDict = false ∧ (kD r w d).depth ≤ 40 ∧ (kD r w d).shown.length ≤ 1000 := by decide +kernel
theorem join_ok : ∀ r ∈ RD, ∀ w ∈ WR, ∀ d ∈ DV, Txt.join " " [r, w, d] = Str.empty ++ r ++ " " ++ w ++ " " ++ d := by decide +kernel
theorem dpStrs {K : PySem.W.Frag} {H : Hp} : ∀ l : List Str, DpAll K H (l.map V.str) (l.map PyData.str)
  | [] => .nil
  | x :: l => .cons (.str x) (dpStrs l)
theorem st_data {K : PySem.W.Frag} {H : Hp} {t : Addr} {w : Str} (h : H t = some (.tup (stL w))) : Dp K H (.ref t) (stD w) := by
  unfold stL at h
  unfold stD
  split <;> rename_i c
  · rw [if_pos c] at h
    exact .tup (SqT.of h) (.cons (.int _) (.cons (.int _) (.cons (.int _) (.cons (.int _) .nil))))
  · rw [if_neg c] at h
    exact .tup (SqT.of h) (.cons (.int _) (.cons (.int _) .nil))
theorem at_st {w : Str} {i : Int} (h0 : 0 ≤ i) (h1 : i < ((stL w).length : Int)) : ∃ s : Int, St w s ∧ atI (stL w) i = some (.int s) := by
  unfold stL at h1 ⊢
  split <;> rename_i c
  · rw [if_pos c] at h1
    have h1 : i < 4 := h1
    have : i = 0 ∨ i = 1 ∨ i = 2 ∨ i = 3 := by omega
    rcases this with rfl | rfl | rfl | rfl
    · exact ⟨0, .inl rfl, rfl⟩
    · exact ⟨1, .inr (.inl rfl), rfl⟩
    · exact ⟨2, .inr (.inr ⟨c, .inl rfl⟩), rfl⟩
    · exact ⟨3, .inr (.inr ⟨c, .inr rfl⟩), rfl⟩
  · rw [if_neg c] at h1
    have h1 : i < 2 := h1
    have : i = 0 ∨ i = 1 := by omega
    rcases this with rfl | rfl
    · exact ⟨0, .inl rfl, rfl⟩
    · exact ⟨1, .inr (.inl rfl), rfl⟩
theorem KindAt.kp {C p l : Addr} {n : Nat} {cells : List Int} {H H' : Hp} {k : Addr} {r w d : Str} (pen : PenC n p l cells H) (kk : Kp p H H') (h : KindAt C H k r w d) : KindAt C H' k r w d := by
  obtain ⟨dx, st, a, b⟩ := h
  refine ⟨dx, st, kk _ _ a ?_, kk _ _ b (tup_ne pen b)⟩
  obtain ⟨_, _, _, _, _, z⟩ := pen
  exact ne_of a z (by intro y; cases y)
def spLaw (K : PySem.W.Frag) : Sp := fun vs H Q _ => ∃ (a : Addr) (ns : List Int), vs = [.ref a] ∧ SqL K H a (ns.map V.int) ∧ ns.length ≤ 63 ∧ ∀ H', Q (.bl true) H'
section
variable {P : Program} {w : World} {K : PySem.W.Frag} {mg : Str → Option Value} {base : Heap} {C aW aI : Addr} {mc : Value}
theorem ok_law {fl fi fs fe : Addr} {fdl fdi fds fde : FuncData} (D : Fun K "law" "law" s_law fl fdl) (T : KT K w mg C aW aI mc) (B : Bi mg)
    (c_law_pen : Cal P w K mg base 1 "_law_pen" (spPen K)) (c_law_draw : Cal P w K mg base 1 "_law_draw" spDraw) (c_law_words : Cal P w K mg base 2 "_law_words" spWords)
    (c_law_state_right : Cal P w K mg base 3 "_law_state_right" (spRight C)) (c_law_onward : Cal P w K mg base 2 "_law_onward" spOn)
    (MK : Mk K C fi) (FIN : Gd P w K mg base CX0 1 fi fdi ["self", "reading", "writing", "device"] (spInit C)) (bIN : Binds K fdi ["self", "reading", "writing", "device"] [])
    (bINK : KBn K fdi ["self", "reading", "writing", "device"] 1 ["device", "writing", "reading"] (fun us ws => us ++ sel [2, 1, 0] ws) (fun vs zs => vs ++ sel [2, 1, 0] zs))
    (FST : Gd P w K mg base CX0 1 fs fds ["self"] (spST C)) (bST : Binds K fds ["self"] []) (fS1 : PySem.W.findIn K (.ref C) "__str__" = some (some (.ref fs))) (fS2 : PySem.W.isFn K (.ref fs) = true)
    (FEQ : Gd P w K mg base CX0 1 fe fde ["self", "other"] (spEQ C)) (bEQ : Binds K fde ["self", "other"] []) (eqI : PySem.W.findIn K (.ref C) "__eq__" = some (some (.ref fe))) (eqF : PySem.W.isFn K (.ref fe) = true)
    (neI : PySem.W.findIn K (.ref C) "__ne__" = some (some (.builtin "object.__ne__"))) : Gd P w K mg base CX0 4 fl fdl ["_law_script"] (spLaw K) := by
  refine gd0 D sc_law (fun vs H Q E h => ?_) (fun cdv A outer s H vs Q E rm gd h => ?_)
  · obtain ⟨a, ns, rfl, _⟩ := h
    rfl
  · obtain ⟨a, ns, rfl, hS, hlen, q⟩ := h
    have rmI : Room 2 (A.deeper (envOfC "law" (defScope s_law) s.heap.objs.size fl cdv)) := rm.mono (by decide)
    have rmS : Room 3 (A.deeper (envOfC "law" (defScope s_law) s.heap.objs.size fl cdv)) := rm
    obtain ⟨aR, cR, kR⟩ := T.cR
    obtain ⟨bW, cW, kW⟩ := T.cW
    obtain ⟨aD, cD, kD'⟩ := T.cD
    have cl := T.cl
    have nR := T.nR
    have nW := T.nW
    have nD := T.nD
    have nS := T.nS
    refine ⟨_, (pss_cons (ps_set (i := 1) sc_law.nd rfl (Or.inl rfl) (pc c_law_pen rm (by decide) gd rfl (pa_cons (pv 0) pa_nil)))
    (pss_mid (ps_if (PW.pt (pw_or (pt_cmpR op_ne (pe_callB (call_repr rm gd) (by rfl) B.g_repr (by decide +kernel) (pa_cons (ClX.pe_cval (pe_glob (v := .ref C) rfl T.g_Kind rfl)) pa_nil)) pe_str (nomark _)) (pw_or1 (pt_cmpR op_ne (pe_callB (call_repr rm gd) (by rfl) B.g_repr (by decide +kernel) (pa_cons (ClX.pe_cval (pe_glob (v := .ref C) rfl T.g_Kind rfl)) pa_nil)) pe_str (nomark _)))))
      (pss_one (ps_ret pe_bl))
      pss_nil)
    (pss_cons (ps_if (pt_cmpR op_ne (pe_callB (call_repr rm gd) (by rfl) B.g_repr (by decide +kernel) (pa_cons (ClX.pe_cval (pe_glob (v := .ref C) rfl T.g_Kind rfl)) pa_nil)) pe_str (nomark _))
      (pss_one (ps_ret pe_bl))
      pss_nil)
    (pss_cons (ps_for PassesOwn.never rfl (pi_range1 rfl B.g_range (pa_cons pe_int pa_nil)) (pg_name (i := 2) sc_law.nd rfl (Or.inl rfl))
      (pss_cons (ps_set (i := 3) sc_law.nd rfl (Or.inl rfl) (pc c_law_words rm (by decide) gd rfl (pa_cons (pv 1) pa_nil)))
      (pss_cons (ps_set (i := 4) sc_law.nd rfl (Or.inl rfl) (pe_gmakeK MK FIN rmI gd rfl T.g_Kind bINK pass0 (pk_cons (pe_ix ix_tup (pv 3) pe_int (fun _ _ => rfl)) (pk_cons (pe_ix ix_tup (pv 3) pe_int (fun _ _ => rfl)) (pk_cons (pe_ix ix_tup (pv 3) pe_int (fun _ _ => rfl)) pk_nil)))))
      (pss_mid (ps_set (i := 5) sc_law.nd rfl (Or.inl rfl) (pe_ifExp (pt_cmpR op_eq (pe_ix ix_tup (pv 3) pe_int (fun _ _ => rfl)) pe_str (nomark _)) (pe_tup (pa_cons pe_int (pa_cons pe_int (pa_cons pe_int (pa_cons pe_int pa_nil))))) (pe_tup (pa_cons pe_int (pa_cons pe_int pa_nil)))))
      (pss_cons (ps_if (pt_cmpR op_ne (pe_callB (call_repr rm gd) (by rfl) B.g_repr (by decide +kernel) (pa_cons (pe_tup (pa_cons (pe_fld (pv 4) rfl) (pa_cons (pe_fld (pv 4) rfl) (pa_cons (pe_fld (pv 4) rfl) (pa_cons (pe_fld (pv 4) rfl) pa_nil))))) pa_nil)) (pe_callB (call_repr rm gd) (by rfl) B.g_repr (by decide +kernel) (pa_cons (pe_op op_catT (pv 3) (pe_tup (pa_cons (pv 5) pa_nil))) pa_nil)) (nomark _))
        (pss_one (ps_ret pe_bl))
        pss_nil)
      (pss_cons (ps_set (i := 6) sc_law.nd rfl (Or.inl rfl) (pe_ix ix_tup (pv 5) (pc c_law_draw rm (by decide) gd rfl (pa_cons (pv 1) (pa_cons (pe_callB call_len_seq (by rfl) B.g_len (by decide +kernel) (pa_cons (pv 5) pa_nil)) pa_nil))) (fun _ _ => rfl)))
      (pss_cons (ps_for PassesOwn.never rfl (pi_range1 rfl B.g_range (pa_cons pe_int pa_nil)) (pg_name (i := 7) sc_law.nd rfl (Or.inl rfl))
        (pss_cons (ps_if (pt_not (pt_val (pc c_law_state_right rm (by decide) gd rfl (pa_cons (pv 4) (pa_cons (pv 3) (pa_cons (pv 6) pa_nil))))))
          (pss_one (ps_ret pe_bl))
          pss_nil)
        (pss_one (ps_set (i := 6) sc_law.nd rfl (Or.inl rfl) (pc c_law_onward rm (by decide) gd rfl (pa_cons (pv 1) (pa_cons (pv 3) (pa_cons (pv 6) pa_nil))))))))
      (pss_one (ps_if (PW.pt (pw_or (pt_cmpR op_ne (pe_callTy (call_strO FST rmS gd fS1 fS2 bST pass0) (by rfl) B.g_str (by decide +kernel) (pa_cons (pv 4) pa_nil)) (pe_join pe_str (pv 3)) (nomark _)) (pw_or1 (pt_cmpR (op_neO FEQ rmI gd eqI eqF neI T.isM bEQ pass0) (pv 4) (pe_gmake MK FIN rmI gd rfl T.g_Kind bIN .nil pass0 (pa_cons (pe_ix ix_tup (pv 3) pe_int (fun _ _ => rfl)) (pa_cons (pe_ix ix_tup (pv 3) pe_int (fun _ _ => rfl)) (pa_cons (pe_ix ix_tup (pv 3) pe_int (fun _ _ => rfl)) pa_nil)))) (nomark _)))))
        (pss_one (ps_ret pe_bl))
        pss_nil)))))))))
    (pss_one (ps_ret pe_bl)))))), ?_⟩
    walk_at "go"
    refine ⟨a, ns, rfl, hS, hlen, fun p l cells H1 np pen s1 => ?_⟩
    walk_at "go"
    refine w_mid (fun σ' H' => H' = H1 ∧ σ' = [some (.ref a), some (.ref p), none, none, none, none, none, none]) ?_ ?_
    · walk_at "go"
      refine ⟨C, mc, .ref aR, .ref aR, rfl, T.rd, cR, ?_⟩
      walk_at "go"
      refine ⟨.ref aR, .tuple (RD.map PyData.str), rfl, .tup (kR.t _) (dpStrs RD), by decide +kernel, by decide +kernel, by decide +kernel, Nat.le_trans (show _ ≤ 1000 by decide +kernel) (by decide), ?_⟩
      rw [show (PyData.tuple (RD.map PyData.str)).shown = "('keep', 'take')" from by decide +kernel]
      walk_at "go"
      refine iteNS rfl ?_
      walk_at "go"
      refine ⟨C, mc, .ref aD, .ref aD, rfl, T.rd, cD, ?_⟩
      walk_at "go"
      refine ⟨.ref aD, .tuple (DV.map PyData.str), rfl, .tup (kD'.t _) (dpStrs DV), by decide +kernel, by decide +kernel, by decide +kernel, Nat.le_trans (show _ ≤ 1000 by decide +kernel) (by decide), ?_⟩
      rw [show (PyData.tuple (DV.map PyData.str)).shown = "('still', 'raise', 'end', 'drift')" from by decide +kernel]
      walk_at "go"
      refine iteNS rfl ?_
      walk_at "go"
      exact ⟨rfl, rfl⟩
    · rintro σ' H' ⟨rfl, rfl⟩
      walk_at "go"
      refine ⟨C, mc, .ref bW, .ref bW, rfl, T.rd, cW, ?_⟩
      walk_at "go"
      refine ⟨.ref bW, .tuple (WR.map PyData.str), rfl, .tup (kW.t _) (dpStrs WR), by decide +kernel, by decide +kernel, by decide +kernel, Nat.le_trans (show _ ≤ 1000 by decide +kernel) (by decide), ?_⟩
      rw [show (PyData.tuple (WR.map PyData.str)).shown = "('store', 'clear1', 'clear0', 'set1', 'flip1', 'once', 'none')" from by decide +kernel]
      walk_at "go"
      refine iteNS rfl ?_
      walk_at "go"
      refine over_r (by decide) (by decide) (for_range (n := 6) (fun i σ' H' => PenC (12 * i) p l cells H' ∧ ∃ v2 v3 v4 v5 v6 v7, σ' = [some (.ref a), some (.ref p), v2, v3, v4, v5, v6, v7]) ⟨pen, none, none, none, none, none, none, rfl⟩ ?_ ?_)
      · rintro i σ' H2 hi ⟨pen2, v2, v3, v4, v5, v6, v7, rfl⟩
        walk_at "go"
        refine ⟨p, l, cells, 12 * i, rfl, pen2, by omega, fun t r wr d H3 hr hw hd nt h3 pen3 k3 => ?_⟩
        walk_at "go"
        refine ⟨rfl, make fun k dx H4 n4 h4 s4 => ?_⟩
        refine ⟨k, dx, r, wr, d, rfl, h4, hr, hw, hd, fun H5 hk5 e5 => ⟨rfl, ?_⟩⟩
        have s5 : Same H3 H5 := fun b o e => e5 b o (s4 b o e) (ne_of_none e n4)
        have pen5 := pen3.same s5
        have t5 := s5 _ _ h3
        walk_at "go"
        refine w_mid (fun σ' H' => Same H5 H' ∧ ∃ st, H' st = some (.tup (stL wr)) ∧ σ' = [some (.ref a), some (.ref p), some (.int (0 + (i : Int))), some (.ref t), some (.ref k), some (.ref st), v6, v7]) ?_ ?_
        · walk_at "go"
          rw [dS]
          by_cases e : wr = "once"
          · rw [decide_eq_true e]
            refine iteT ?_
            walk_at "go"
            refine new (by show 4 ≤ sizeLine; decide) fun st H6 n6 h6 s6 => ?_
            walk_at "go"
            exact ⟨s6, st, by rw [h6]; unfold stL; rw [if_pos e], rfl⟩
          · rw [decide_eq_false e]
            refine iteF ?_
            walk_at "go"
            refine new (by show 2 ≤ sizeLine; decide) fun st H6 n6 h6 s6 => ?_
            walk_at "go"
            exact ⟨s6, st, by rw [h6]; unfold stL; rw [if_neg e], rfl⟩
        · rintro σ' H6 ⟨s6, st, h6, rfl⟩
          have hk6 := hk5.same s6
          obtain ⟨dx6, st6, hk7, hst7⟩ := id hk6
          have t6 := s6 _ _ t5
          have pen6 := pen5.same s6
          have ok := kD_ok r hr wr hw d hd
          walk_at "go"
          refine new (by show 4 ≤ sizeLine; decide) fun u1 H7 n7 h7 s7 => ?_
          walk_at "go"
          refine ⟨.ref u1, kD r wr d, rfl, .tup (SqT.of h7) (.cons (.str _) (.cons (.str _) (.cons (.str _) (.cons (st_data (s7 _ _ hst7)) .nil)))), ok.1, ok.2.1, ok.2.2.1, Nat.le_trans ok.2.2.2 (by decide), ?_⟩
          walk_at "go"
          refine new (by show 1 ≤ sizeLine; decide) fun u2 H8 n8 h8 s8 => ?_
          refine ⟨t, u2, [.str r, .str wr, .str d], [.ref st], rfl, rfl, SqT.of (s8 _ _ (s7 _ _ t6)), SqT.of h8, by simp, by show 4 ≤ sizeLine; decide, fun z => (by cases z), fun _ u3 n3 => ?_⟩
          have s9 : Same H8 (upd H8 u3 (.tup ([.str r, .str wr, .str d] ++ [.ref st]))) := fun b o e => by rw [upd_ne (ne_of_none e n3)]; exact e
          have s69 := s7.trans (s8.trans s9)
          walk_at "go"
          refine ⟨.ref u3, kD r wr d, rfl, .tup (SqT.of upd_same) (.cons (.str _) (.cons (.str _) (.cons (.str _) (.cons (st_data (s69 _ _ h6)) .nil)))), ok.1, ok.2.1, ok.2.2.1, Nat.le_trans ok.2.2.2 (by decide), ?_⟩
          generalize (kD r wr d).shown = text
          walk_at "go"
          refine iteNS rfl ?_
          walk_at "go"
          have pen9 := pen6.same s69
          have hk9 := hk6.same s69
          have t9 := s69 _ _ t6
          have st9 := s69 _ _ h6
          refine ⟨st, stL wr, rfl, .inr (SqT.of st9), ?_⟩
          have lpos : 0 < (stL wr).length ∧ (stL wr).length < 10 := by
            unfold stL
            split
            · exact ⟨by decide, by decide⟩
            · exact ⟨by decide, by decide⟩
          walk_at "go"
          refine ⟨p, l, cells, 12 * i + 3, _, rfl, pen9, by omega, by omega, by omega, fun z H10 z0 z1 pen10 k10 => ?_⟩
          obtain ⟨s0, hs0, es0⟩ := at_st z0 z1
          refine w_ixT (SqT.of (k10 _ _ st9 (tup_ne pen9 st9))) es0 ?_
          walk_at "go"
          refine over_r (by decide) (by decide) (for_range (n := 8) (fun j σ' H' => PenC (12 * i + 4 + j) p l cells H' ∧ KindAt C H' k r wr d ∧ H' t = some (.tup [.str r, .str wr, .str d]) ∧
            ∃ s v7, St wr s ∧ σ' = [some (.ref a), some (.ref p), some (.int (0 + (i : Int))), some (.ref t), some (.ref k), some (.ref st), some (.int s), v7])
            ⟨pen10, hk9.kp pen9 k10, k10 _ _ t9 (tup_ne pen9 t9), s0, v7, hs0, rfl⟩ ?_ ?_)
          · rintro j σ' H11 hj ⟨pen11, hk11, t11, s, v, hs, rfl⟩
            walk_at "go"
            refine ⟨k, t, r, wr, d, s, rfl, hk11, t11, hr, hw, hd, hs, fun H12 s12 => ?_⟩
            walk_at "go"
            refine iteF ?_
            walk_at "go"
            have pen12 := pen11.same s12
            have t12 := s12 _ _ t11
            refine ⟨p, l, t, cells, 12 * i + 4 + j, r, wr, d, s, rfl, pen12, by omega, t12, hw, hs, fun s' H13 hs' pen13 k13 => ?_⟩
            walk_at "go"
            exact ⟨pen13, (hk11.same s12).kp pen12 k13, k13 _ _ t12 (tup_ne pen12 t12), s', _, hs', rfl⟩
          · rintro σ' H11 ⟨pen11, hk11, t11, s, v, hs, rfl⟩
            obtain ⟨dx11, st11, hk12, hst12⟩ := id hk11
            walk_at "go"
            refine ⟨k, dx11, _, rfl, hk12, k, r, wr, d, rfl, hk11, hr, hw, hd, _, rfl, ?_⟩
            walk_at "go"
            refine ⟨⟨_, rfl⟩, _, rfl, " ", t, [r, wr, d], rfl, rfl, .inr (SqT.of t11), ?_, ?_⟩
            · have l1 := sh_rd r hr
              have l2 := sh_wr wr hw
              have l3 := sh_dv d hd
              show r.length + (wr.length + (d.length + 0)) + 3 * 1 ≤ 16777216
              omega
            rw [join_ok r hr wr hw d hd]
            generalize (Str.empty ++ r ++ " " ++ wr ++ " " ++ d : Str) = text
            walk_at "go"
            refine iteNS rfl ?_
            walk_at "go"
            refine make fun k2 dx2 H12 n12 h12 s12 => ?_
            refine ⟨k2, dx2, r, wr, d, rfl, h12, hr, hw, hd, fun H13 hk13 e13 => ⟨rfl, ?_⟩⟩
            have s13 : Same H11 H13 := fun b o e => e13 b o (s12 b o e) (ne_of_none e n12)
            have hk14 := hk11.same s13
            obtain ⟨dx14, st14, hk15, hst15⟩ := id hk14
            refine ⟨k, dx14, _, .ref C, rfl, hk15, ty_kind T hk13, ?_, k, k2, r, wr, d, r, wr, d, rfl, hk14, hk13, _, rfl, ?_⟩
            · unfold PySem.W.notFirst
              rw [beq_self_eq_true, Bool.true_or]
            rw [decide_eq_true rfl, decide_eq_true rfl, decide_eq_true rfl]
            walk_at "go"
            refine iteF ?_
            walk_at "go"
            refine ⟨?_, _, _, _, _, _, _, rfl⟩
            have e12 : 12 * (i + 1) = 12 * i + 4 + 8 := by omega
            rw [e12]
            exact pen11.same s13
      · rintro σ' H2 ⟨pen2, v2, v3, v4, v5, v6, v7, rfl⟩
        walk_at "go"
        exact q H2
end
end Law

set_option Elab.async false
set_option linter.all false
set_option maxRecDepth 100000
set_option maxHeartbeats 4000000
namespace Law
open PySem PySem.Spec PyProof.Rows L2 KG
local macro_rules | `(tactic| walk_at "1") => `(tactic| first
  | (with_reducible refine w_var rfl ?_) | (with_reducible refine w_c ?_) | (with_reducible refine w_seq ?_) | (with_reducible refine w_asg ?_) | (with_reducible refine w_gname ?_) | (with_reducible refine w_op ?_) | (with_reducible refine w_un ?_)
  | (with_reducible refine w_add ?_) | (with_reducible refine w_sub ?_) | ((with_reducible refine' w_mod ?mo ?_); (case mo => first | assumption | decide | omega)) | (with_reducible refine w_and ?_) | (with_reducible refine w_or ?_) | (with_reducible refine w_xor ?_)
  | (with_reducible refine w_gt ?_) | (with_reducible refine w_lt ?_) | (with_reducible refine w_ge ?_) | (with_reducible refine w_le ?_) | ((with_reducible refine' w_eq ?sc ?_); (case sc => rfl)) | ((with_reducible refine' w_ne ?sc ?_); (case sc => rfl))
  | (with_reducible refine w_ret ?_) | (with_reducible refine w_next ?_) | (with_reducible refine w_ifs ?_) | (with_reducible refine w_ifx ?_) | (with_reducible refine w_test ?_) | (with_reducible refine w_tB ?_) | (with_reducible refine w_bl ?_)
  | ((with_reducible refine' w_ixL ?ixh ?ixa ?_); (case ixh => first | exact SqL.of (by assumption)); (case ixa => first | rfl | skip)) | ((with_reducible refine' w_ixT ?ixh ?ixa ?_); (case ixh => first | exact SqT.of (by assumption)); (case ixa => first | rfl | skip))
  | ((with_reducible refine' w_fld ?_)) | ((with_reducible refine' fld ?fh ?fc ?fn ?fl ?_); (case fh => assumption); (case fc => assumption); (case fn => assumption); (case fl => rfl)) | (with_reducible refine w_sfld ?_)
  | (with_reducible refine Or.inl ⟨_, rfl, ?_⟩) | (with_reducible refine w_gsub ?_) | (with_reducible refine w_andV ?_) | (with_reducible refine w_orV ?_)
  | (with_reducible refine w_nil ?_) | (with_reducible refine w_cons ?_) | (with_reducible refine w_tup ?_) | (with_reducible refine w_lst ?_) | (with_reducible refine w_and2 ?_) | (with_reducible refine w_or2 ?_) | (with_reducible refine w_not ?_) | (with_reducible refine w_cb ?_) | (with_reducible refine w_call ?_) | (with_reducible refine w_par ?_) | (with_reducible refine w_pnil ?_) | (with_reducible refine w_pcons ?_) | (with_reducible refine w_dput ?_) | (with_reducible refine w_dget ?_) | (with_reducible refine w_for ?_) | (with_reducible refine w_itup ?_) | (with_reducible refine w_ilist ?_) | (with_reducible refine w_irng ?_) | (with_reducible refine w_meth ?_) | (with_reducible refine w_make ?_) | (with_reducible refine w_makeK ?_) | (with_reducible refine w_methK ?_) | ((with_reducible refine' mth ?mh ?ml ?_); (case mh => assumption); (case ml => rfl)) | (with_reducible refine w_drop ?_))
local macro_rules | `(tactic| walk_at "go") => `(tactic| ((repeat (walk_at "1")); try dsimp only))
theorem ktup {K : PySem.W.Frag} {a : Addr} {dd : Option Addr} {its : Array Value} {n : Nat} {sl : Array (Option Value)} {xs : List V} (h : K.lookup a = some ⟨.type "tuple", dd, .seq its n, sl⟩) (z : Nat.ble its.size 100 = true) (r : Vals xs its.toList) : KTup K a xs :=
  ⟨_, its, n, h, rfl, rfl, Nat.le_trans (Nat.le_of_ble_eq_true z) (by decide), r⟩
theorem all {l : PySem.W.OpenLaw} {w : World} {K : PySem.W.Frag} {h : Heap} {mg : Str → Option Value} {fa : Addr} (X : K.In h) (G : h.Ns mainGlobals mg) (hfa : mg "law" = some (.ref fa))
    {C aW aI aR bW aD : Addr} {mc : Value} {tS : Tok} {u2 : Tok} {u3 : Tok} {ddt1 : Option Addr} {nnt1 : Nat} {sst1 : Array (Option Value)} {u5 : Tok} {u6 : Tok} {u7 : Tok} {u8 : Tok} {u9 : Tok} {u10 : Tok} {u11 : Tok} {ddt4 : Option Addr} {nnt4 : Nat} {sst4 : Array (Option Value)} {u13 : Tok} {u14 : Tok} {u15 : Tok} {u16 : Tok} {ddt12 : Option Addr} {nnt12 : Nat} {sst12 : Array (Option Value)} {esW esI : Array DictEntry} {nW_ nI_ : Nat} {w_store w_storea w_storeb : Addr} {ddt17 : Option Addr} {nnt17 : Nat} {sst17 : Array (Option Value)} {u19 : Tok} {u20 : Tok} {ddt18 : Option Addr} {nnt18 : Nat} {sst18 : Array (Option Value)} {u22 : Tok} {u23 : Tok} {ddt21 : Option Addr} {nnt21 : Nat} {sst21 : Array (Option Value)} {w_clear1 w_clear1a w_clear1b : Addr} {ddt24 : Option Addr} {nnt24 : Nat} {sst24 : Array (Option Value)} {u26 : Tok} {u27 : Tok} {ddt25 : Option Addr} {nnt25 : Nat} {sst25 : Array (Option Value)} {u29 : Tok} {u30 : Tok} {ddt28 : Option Addr} {nnt28 : Nat} {sst28 : Array (Option Value)} {w_clear0 w_clear0a w_clear0b : Addr} {ddt31 : Option Addr} {nnt31 : Nat} {sst31 : Array (Option Value)} {u33 : Tok} {u34 : Tok} {ddt32 : Option Addr} {nnt32 : Nat} {sst32 : Array (Option Value)} {u36 : Tok} {u37 : Tok} {ddt35 : Option Addr} {nnt35 : Nat} {sst35 : Array (Option Value)} {w_set1 w_set1a w_set1b : Addr} {ddt38 : Option Addr} {nnt38 : Nat} {sst38 : Array (Option Value)} {u40 : Tok} {u41 : Tok} {ddt39 : Option Addr} {nnt39 : Nat} {sst39 : Array (Option Value)} {u43 : Tok} {u44 : Tok} {ddt42 : Option Addr} {nnt42 : Nat} {sst42 : Array (Option Value)} {w_flip1 w_flip1a w_flip1b : Addr} {ddt45 : Option Addr} {nnt45 : Nat} {sst45 : Array (Option Value)} {u47 : Tok} {u48 : Tok} {ddt46 : Option Addr} {nnt46 : Nat} {sst46 : Array (Option Value)} {u50 : Tok} {u51 : Tok} {ddt49 : Option Addr} {nnt49 : Nat} {sst49 : Array (Option Value)} {w_once w_oncea w_onceb : Addr} {ddt52 : Option Addr} {nnt52 : Nat} {sst52 : Array (Option Value)} {u54 : Tok} {u55 : Tok} {ddt53 : Option Addr} {nnt53 : Nat} {sst53 : Array (Option Value)} {u57 : Tok} {u58 : Tok} {ddt56 : Option Addr} {nnt56 : Nat} {sst56 : Array (Option Value)} {w_none w_nonea w_noneb : Addr} {ddt59 : Option Addr} {nnt59 : Nat} {sst59 : Array (Option Value)} {u61 : Tok} {u62 : Tok} {ddt60 : Option Addr} {nnt60 : Nat} {sst60 : Array (Option Value)} {u64 : Tok} {u65 : Tok} {ddt63 : Option Addr} {nnt63 : Nat} {sst63 : Array (Option Value)} {i_still : Addr} {ddt66 : Option Addr} {nnt66 : Nat} {sst66 : Array (Option Value)} {i_raise : Addr} {u68 : Tok} {ddt67 : Option Addr} {nnt67 : Nat} {sst67 : Array (Option Value)} {i_end : Addr} {u70 : Tok} {ddt69 : Option Addr} {nnt69 : Nat} {sst69 : Array (Option Value)} {i_drift : Addr} {u72 : Tok} {u73 : Tok} {ddt71 : Option Addr} {nnt71 : Nat} {sst71 : Array (Option Value)} {m_Kind_init : Addr} {odv74 anv74 : Option Addr} {slv74 : Array (Option Value)} {ocv74 kVv74 dcv74 pmv74 cdv74 ctv74 : Value} {m_Kind_after_read : Addr} {odv75 anv75 : Option Addr} {slv75 : Array (Option Value)} {ocv75 kVv75 dcv75 pmv75 cdv75 ctv75 : Value} {m_Kind_after_write : Addr} {odv76 anv76 : Option Addr} {slv76 : Array (Option Value)} {ocv76 kVv76 dcv76 pmv76 cdv76 ctv76 : Value} {m_Kind_unguarded : Addr} {odv77 anv77 : Option Addr} {slv77 : Array (Option Value)} {ocv77 kVv77 dcv77 pmv77 cdv77 ctv77 : Value} {m_Kind_deeds : Addr} {odv78 anv78 : Option Addr} {slv78 : Array (Option Value)} {ocv78 kVv78 dcv78 pmv78 cdv78 ctv78 : Value} {m_Kind_eq : Addr} {odv79 anv79 : Option Addr} {slv79 : Array (Option Value)} {ocv79 kVv79 dcv79 pmv79 cdv79 ctv79 : Value} {m_Kind_str : Addr} {odv80 anv80 : Option Addr} {slv80 : Array (Option Value)} {ocv80 kVv80 dcv80 pmv80 cdv80 ctv80 : Value} {f__law_pen : Addr} {odv81 anv81 : Option Addr} {slv81 : Array (Option Value)} {ocv81 kVv81 dcv81 pmv81 cdv81 ctv81 : Value} {f__law_draw : Addr} {odv82 anv82 : Option Addr} {slv82 : Array (Option Value)} {ocv82 kVv82 dcv82 pmv82 cdv82 ctv82 : Value} {f__law_write : Addr} {odv83 anv83 : Option Addr} {slv83 : Array (Option Value)} {ocv83 kVv83 dcv83 pmv83 cdv83 ctv83 : Value} {f__law_read : Addr} {odv84 anv84 : Option Addr} {slv84 : Array (Option Value)} {ocv84 kVv84 dcv84 pmv84 cdv84 ctv84 : Value} {f__law_deeds : Addr} {odv85 anv85 : Option Addr} {slv85 : Array (Option Value)} {ocv85 kVv85 dcv85 pmv85 cdv85 ctv85 : Value} {f__law_words : Addr} {odv86 anv86 : Option Addr} {slv86 : Array (Option Value)} {ocv86 kVv86 dcv86 pmv86 cdv86 ctv86 : Value} {f__law_state_right : Addr} {odv87 anv87 : Option Addr} {slv87 : Array (Option Value)} {ocv87 kVv87 dcv87 pmv87 cdv87 ctv87 : Value} {f__law_onward : Addr} {odv88 anv88 : Option Addr} {slv88 : Array (Option Value)} {ocv88 kVv88 dcv88 pmv88 cdv88 ctv88 : Value} {f_law : Addr} {odv89 anv89 : Option Addr} {slv89 : Array (Option Value)} {ocv89 kVv89 dcv89 pmv89 cdv89 ctv89 : Value}
    (n_Kind : PySem.W.nsIn K mainGlobals "Kind" = some (some (.ref C)))
    (n_WRITES : PySem.W.nsIn K mainGlobals "WRITES" = some (some (.ref aW)))
    (n_INVERTED : PySem.W.nsIn K mainGlobals "INVERTED" = some (some (.ref aI)))
    (n_SPENT : PySem.W.nsIn K mainGlobals "SPENT" = some (some (.int 2 tS)))
    (no_int : PySem.W.nsIn K mainGlobals "int" = some none)
    (no_len : PySem.W.nsIn K mainGlobals "len" = some none)
    (no_abs : PySem.W.nsIn K mainGlobals "abs" = some none)
    (no_list : PySem.W.nsIn K mainGlobals "list" = some none)
    (no_repr : PySem.W.nsIn K mainGlobals "repr" = some none)
    (no_range : PySem.W.nsIn K mainGlobals "range" = some none)
    (no_str : PySem.W.nsIn K mainGlobals "str" = some none)
    (no_isinstance : PySem.W.nsIn K mainGlobals "isinstance" = some none)
    (pg : PySem.W.plainGet K C Str.empty = true)
    (hd : PySem.W.hasDictIn K C = true)
    (po : PySem.W.plainOver K C = true)
    (fd_C_setattr : PySem.W.findIn K (.ref C) "__setattr__" = some (some (.builtin "object.__setattr__")))
    (fd_C_reading : PySem.W.findIn K (.ref C) "reading" = some none)
    (fd_C_writing : PySem.W.findIn K (.ref C) "writing" = some none)
    (fd_C_device : PySem.W.findIn K (.ref C) "device" = some none)
    (fd_C_states : PySem.W.findIn K (.ref C) "states" = some none)
    (fd_C_class : PySem.W.findIn K (.ref C) "__class__" = some (some (.builtin "object.__class__")))
    (fd_C_ne : PySem.W.findIn K (.ref C) "__ne__" = some (some (.builtin "object.__ne__")))
    (isG : PySem.W.specialIn K (.builtin "object.__class__") "__get__" = some (some (.builtin "getset_descriptor.__get__")))
    (isT : PySem.W.takesIn K (.builtin "object.__class__") = some true)
    (isM : PySem.W.mroIn K C (.type "object") = some true)
    (mk : PySem.W.makesIn K C = true)
    (kc : PySem.W.keepIn K (.ref C) = true)
    (mcT : PySem.W.typeIn K (.ref C) = some mc)
    (rdI : PySem.W.readsIn K C mc = true)
    (gaI : PySem.W.specialIn K (.ref C) "__getattribute__" = some (some (.builtin "type.__getattribute__")))
    (v_READINGS : PySem.W.findCls K (.ref C) mc "READINGS" = some (.val (.ref aR)))
    (q_aR : K.lookup aR = some ⟨.type "tuple", ddt1, .seq #[.str "keep" u2, .str "take" u3] nnt1, sst1⟩)
    (v_WRITINGS : PySem.W.findCls K (.ref C) mc "WRITINGS" = some (.val (.ref bW)))
    (q_bW : K.lookup bW = some ⟨.type "tuple", ddt4, .seq #[.str "store" u5, .str "clear1" u6, .str "clear0" u7, .str "set1" u8, .str "flip1" u9, .str "once" u10, .str "none" u11] nnt4, sst4⟩)
    (v_DEVICES : PySem.W.findCls K (.ref C) mc "DEVICES" = some (.val (.ref aD)))
    (q_aD : K.lookup aD = some ⟨.type "tuple", ddt12, .seq #[.str "still" u13, .str "raise" u14, .str "end" u15, .str "drift" u16] nnt12, sst12⟩)
    (lW : K.lookup aW = some ⟨.type "dict", none, .dict esW nW_, #[]⟩)
    (lI : K.lookup aI = some ⟨.type "dict", none, .dict esI nI_, #[]⟩)
    (kW : PySem.W.KeysLit w.params esW.toList)
    (kI : PySem.W.KeysLit w.params esI.toList)
    (g_w_store : PySem.W.nsIn K aW "store" = some (some (.ref w_store)))
    (q_w_store : K.lookup w_store = some ⟨.type "tuple", ddt17, .seq #[.ref w_storea, .ref w_storeb] nnt17, sst17⟩)
    (q_w_storea : K.lookup w_storea = some ⟨.type "tuple", ddt18, .seq #[.int 0 u19, .int 1 u20] nnt18, sst18⟩)
    (q_w_storeb : K.lookup w_storeb = some ⟨.type "tuple", ddt21, .seq #[.int 0 u22, .int 1 u23] nnt21, sst21⟩)
    (g_w_clear1 : PySem.W.nsIn K aW "clear1" = some (some (.ref w_clear1)))
    (q_w_clear1 : K.lookup w_clear1 = some ⟨.type "tuple", ddt24, .seq #[.ref w_clear1a, .ref w_clear1b] nnt24, sst24⟩)
    (q_w_clear1a : K.lookup w_clear1a = some ⟨.type "tuple", ddt25, .seq #[.int 0 u26, .int 0 u27] nnt25, sst25⟩)
    (q_w_clear1b : K.lookup w_clear1b = some ⟨.type "tuple", ddt28, .seq #[.int 1 u29, .int 0 u30] nnt28, sst28⟩)
    (g_w_clear0 : PySem.W.nsIn K aW "clear0" = some (some (.ref w_clear0)))
    (q_w_clear0 : K.lookup w_clear0 = some ⟨.type "tuple", ddt31, .seq #[.ref w_clear0a, .ref w_clear0b] nnt31, sst31⟩)
    (q_w_clear0a : K.lookup w_clear0a = some ⟨.type "tuple", ddt32, .seq #[.int 0 u33, .int 0 u34] nnt32, sst32⟩)
    (q_w_clear0b : K.lookup w_clear0b = some ⟨.type "tuple", ddt35, .seq #[.int 0 u36, .int 1 u37] nnt35, sst35⟩)
    (g_w_set1 : PySem.W.nsIn K aW "set1" = some (some (.ref w_set1)))
    (q_w_set1 : K.lookup w_set1 = some ⟨.type "tuple", ddt38, .seq #[.ref w_set1a, .ref w_set1b] nnt38, sst38⟩)
    (q_w_set1a : K.lookup w_set1a = some ⟨.type "tuple", ddt39, .seq #[.int 0 u40, .int 1 u41] nnt39, sst39⟩)
    (q_w_set1b : K.lookup w_set1b = some ⟨.type "tuple", ddt42, .seq #[.int 1 u43, .int 1 u44] nnt42, sst42⟩)
    (g_w_flip1 : PySem.W.nsIn K aW "flip1" = some (some (.ref w_flip1)))
    (q_w_flip1 : K.lookup w_flip1 = some ⟨.type "tuple", ddt45, .seq #[.ref w_flip1a, .ref w_flip1b] nnt45, sst45⟩)
    (q_w_flip1a : K.lookup w_flip1a = some ⟨.type "tuple", ddt46, .seq #[.int 0 u47, .int 1 u48] nnt46, sst46⟩)
    (q_w_flip1b : K.lookup w_flip1b = some ⟨.type "tuple", ddt49, .seq #[.int 1 u50, .int 0 u51] nnt49, sst49⟩)
    (g_w_once : PySem.W.nsIn K aW "once" = some (some (.ref w_once)))
    (q_w_once : K.lookup w_once = some ⟨.type "tuple", ddt52, .seq #[.ref w_oncea, .ref w_onceb] nnt52, sst52⟩)
    (q_w_oncea : K.lookup w_oncea = some ⟨.type "tuple", ddt53, .seq #[.int 2 u54, .int 3 u55] nnt53, sst53⟩)
    (q_w_onceb : K.lookup w_onceb = some ⟨.type "tuple", ddt56, .seq #[.int 2 u57, .int 3 u58] nnt56, sst56⟩)
    (g_w_none : PySem.W.nsIn K aW "none" = some (some (.ref w_none)))
    (q_w_none : K.lookup w_none = some ⟨.type "tuple", ddt59, .seq #[.ref w_nonea, .ref w_noneb] nnt59, sst59⟩)
    (q_w_nonea : K.lookup w_nonea = some ⟨.type "tuple", ddt60, .seq #[.int 0 u61, .int 0 u62] nnt60, sst60⟩)
    (q_w_noneb : K.lookup w_noneb = some ⟨.type "tuple", ddt63, .seq #[.int 1 u64, .int 1 u65] nnt63, sst63⟩)
    (g_i_still : PySem.W.nsIn K aI "still" = some (some (.ref i_still)))
    (q_i_still : K.lookup i_still = some ⟨.type "tuple", ddt66, .seq #[] nnt66, sst66⟩)
    (g_i_raise : PySem.W.nsIn K aI "raise" = some (some (.ref i_raise)))
    (q_i_raise : K.lookup i_raise = some ⟨.type "tuple", ddt67, .seq #[.int 0 u68] nnt67, sst67⟩)
    (g_i_end : PySem.W.nsIn K aI "end" = some (some (.ref i_end)))
    (q_i_end : K.lookup i_end = some ⟨.type "tuple", ddt69, .seq #[.int 1 u70] nnt69, sst69⟩)
    (g_i_drift : PySem.W.nsIn K aI "drift" = some (some (.ref i_drift)))
    (q_i_drift : K.lookup i_drift = some ⟨.type "tuple", ddt71, .seq #[.int 0 u72, .int 1 u73] nnt71, sst71⟩)
    (a_Kind___init__ : PySem.W.findIn K (.ref C) "__init__" = some (some (.ref m_Kind_init)))
    (i_Kind___init__ : PySem.W.isFn K (.ref m_Kind_init) = true)
    (l_Kind___init__ : K.lookup m_Kind_init = some ⟨ocv74, odv74, .func (PySem.W.fnOf "__init__" "Kind.__init__" (defArgs s_Kind___init__) (defBody s_Kind___init__) (defScope s_Kind___init__) .none kVv74 dcv74 pmv74 anv74 cdv74 ctv74), slv74⟩)
    (c_Kind___init__ : PySem.W.codeIn K cdv74 "Kind.__init__" = true)
    (k_Kind___init__ : PySem.W.keepIn K (.ref m_Kind_init) = true)
    (a_Kind_after_read : PySem.W.findIn K (.ref C) "after_read" = some (some (.ref m_Kind_after_read)))
    (i_Kind_after_read : PySem.W.isFn K (.ref m_Kind_after_read) = true)
    (l_Kind_after_read : K.lookup m_Kind_after_read = some ⟨ocv75, odv75, .func (PySem.W.fnOf "after_read" "Kind.after_read" (defArgs s_Kind_after_read) (defBody s_Kind_after_read) (defScope s_Kind_after_read) .none kVv75 dcv75 pmv75 anv75 cdv75 ctv75), slv75⟩)
    (c_Kind_after_read : PySem.W.codeIn K cdv75 "Kind.after_read" = true)
    (k_Kind_after_read : PySem.W.keepIn K (.ref m_Kind_after_read) = true)
    (a_Kind_after_write : PySem.W.findIn K (.ref C) "after_write" = some (some (.ref m_Kind_after_write)))
    (i_Kind_after_write : PySem.W.isFn K (.ref m_Kind_after_write) = true)
    (l_Kind_after_write : K.lookup m_Kind_after_write = some ⟨ocv76, odv76, .func (PySem.W.fnOf "after_write" "Kind.after_write" (defArgs s_Kind_after_write) (defBody s_Kind_after_write) (defScope s_Kind_after_write) .none kVv76 dcv76 pmv76 anv76 cdv76 ctv76), slv76⟩)
    (c_Kind_after_write : PySem.W.codeIn K cdv76 "Kind.after_write" = true)
    (k_Kind_after_write : PySem.W.keepIn K (.ref m_Kind_after_write) = true)
    (a_Kind_unguarded : PySem.W.findIn K (.ref C) "unguarded" = some (some (.ref m_Kind_unguarded)))
    (i_Kind_unguarded : PySem.W.isFn K (.ref m_Kind_unguarded) = true)
    (l_Kind_unguarded : K.lookup m_Kind_unguarded = some ⟨ocv77, odv77, .func (PySem.W.fnOf "unguarded" "Kind.unguarded" (defArgs s_Kind_unguarded) (defBody s_Kind_unguarded) (defScope s_Kind_unguarded) .none kVv77 dcv77 pmv77 anv77 cdv77 ctv77), slv77⟩)
    (c_Kind_unguarded : PySem.W.codeIn K cdv77 "Kind.unguarded" = true)
    (k_Kind_unguarded : PySem.W.keepIn K (.ref m_Kind_unguarded) = true)
    (a_Kind_deeds : PySem.W.findIn K (.ref C) "deeds" = some (some (.ref m_Kind_deeds)))
    (i_Kind_deeds : PySem.W.isFn K (.ref m_Kind_deeds) = true)
    (l_Kind_deeds : K.lookup m_Kind_deeds = some ⟨ocv78, odv78, .func (PySem.W.fnOf "deeds" "Kind.deeds" (defArgs s_Kind_deeds) (defBody s_Kind_deeds) (defScope s_Kind_deeds) .none kVv78 dcv78 pmv78 anv78 cdv78 ctv78), slv78⟩)
    (c_Kind_deeds : PySem.W.codeIn K cdv78 "Kind.deeds" = true)
    (k_Kind_deeds : PySem.W.keepIn K (.ref m_Kind_deeds) = true)
    (a_Kind___eq__ : PySem.W.findIn K (.ref C) "__eq__" = some (some (.ref m_Kind_eq)))
    (i_Kind___eq__ : PySem.W.isFn K (.ref m_Kind_eq) = true)
    (l_Kind___eq__ : K.lookup m_Kind_eq = some ⟨ocv79, odv79, .func (PySem.W.fnOf "__eq__" "Kind.__eq__" (defArgs s_Kind___eq__) (defBody s_Kind___eq__) (defScope s_Kind___eq__) .none kVv79 dcv79 pmv79 anv79 cdv79 ctv79), slv79⟩)
    (c_Kind___eq__ : PySem.W.codeIn K cdv79 "Kind.__eq__" = true)
    (k_Kind___eq__ : PySem.W.keepIn K (.ref m_Kind_eq) = true)
    (a_Kind___str__ : PySem.W.findIn K (.ref C) "__str__" = some (some (.ref m_Kind_str)))
    (i_Kind___str__ : PySem.W.isFn K (.ref m_Kind_str) = true)
    (l_Kind___str__ : K.lookup m_Kind_str = some ⟨ocv80, odv80, .func (PySem.W.fnOf "__str__" "Kind.__str__" (defArgs s_Kind___str__) (defBody s_Kind___str__) (defScope s_Kind___str__) .none kVv80 dcv80 pmv80 anv80 cdv80 ctv80), slv80⟩)
    (c_Kind___str__ : PySem.W.codeIn K cdv80 "Kind.__str__" = true)
    (k_Kind___str__ : PySem.W.keepIn K (.ref m_Kind_str) = true)
    (n__law_pen : PySem.W.nsIn K mainGlobals "_law_pen" = some (some (.ref f__law_pen)))
    (l__law_pen : K.lookup f__law_pen = some ⟨ocv81, odv81, .func (PySem.W.fnOf "_law_pen" "_law_pen" (defArgs s__law_pen) (defBody s__law_pen) (defScope s__law_pen) .none kVv81 dcv81 pmv81 anv81 cdv81 ctv81), slv81⟩)
    (c__law_pen : PySem.W.codeIn K cdv81 "_law_pen" = true)
    (k__law_pen : PySem.W.keepIn K (.ref f__law_pen) = true)
    (n__law_draw : PySem.W.nsIn K mainGlobals "_law_draw" = some (some (.ref f__law_draw)))
    (l__law_draw : K.lookup f__law_draw = some ⟨ocv82, odv82, .func (PySem.W.fnOf "_law_draw" "_law_draw" (defArgs s__law_draw) (defBody s__law_draw) (defScope s__law_draw) .none kVv82 dcv82 pmv82 anv82 cdv82 ctv82), slv82⟩)
    (c__law_draw : PySem.W.codeIn K cdv82 "_law_draw" = true)
    (k__law_draw : PySem.W.keepIn K (.ref f__law_draw) = true)
    (n__law_write : PySem.W.nsIn K mainGlobals "_law_write" = some (some (.ref f__law_write)))
    (l__law_write : K.lookup f__law_write = some ⟨ocv83, odv83, .func (PySem.W.fnOf "_law_write" "_law_write" (defArgs s__law_write) (defBody s__law_write) (defScope s__law_write) .none kVv83 dcv83 pmv83 anv83 cdv83 ctv83), slv83⟩)
    (c__law_write : PySem.W.codeIn K cdv83 "_law_write" = true)
    (k__law_write : PySem.W.keepIn K (.ref f__law_write) = true)
    (n__law_read : PySem.W.nsIn K mainGlobals "_law_read" = some (some (.ref f__law_read)))
    (l__law_read : K.lookup f__law_read = some ⟨ocv84, odv84, .func (PySem.W.fnOf "_law_read" "_law_read" (defArgs s__law_read) (defBody s__law_read) (defScope s__law_read) .none kVv84 dcv84 pmv84 anv84 cdv84 ctv84), slv84⟩)
    (c__law_read : PySem.W.codeIn K cdv84 "_law_read" = true)
    (k__law_read : PySem.W.keepIn K (.ref f__law_read) = true)
    (n__law_deeds : PySem.W.nsIn K mainGlobals "_law_deeds" = some (some (.ref f__law_deeds)))
    (l__law_deeds : K.lookup f__law_deeds = some ⟨ocv85, odv85, .func (PySem.W.fnOf "_law_deeds" "_law_deeds" (defArgs s__law_deeds) (defBody s__law_deeds) (defScope s__law_deeds) .none kVv85 dcv85 pmv85 anv85 cdv85 ctv85), slv85⟩)
    (c__law_deeds : PySem.W.codeIn K cdv85 "_law_deeds" = true)
    (k__law_deeds : PySem.W.keepIn K (.ref f__law_deeds) = true)
    (n__law_words : PySem.W.nsIn K mainGlobals "_law_words" = some (some (.ref f__law_words)))
    (l__law_words : K.lookup f__law_words = some ⟨ocv86, odv86, .func (PySem.W.fnOf "_law_words" "_law_words" (defArgs s__law_words) (defBody s__law_words) (defScope s__law_words) .none kVv86 dcv86 pmv86 anv86 cdv86 ctv86), slv86⟩)
    (c__law_words : PySem.W.codeIn K cdv86 "_law_words" = true)
    (k__law_words : PySem.W.keepIn K (.ref f__law_words) = true)
    (n__law_state_right : PySem.W.nsIn K mainGlobals "_law_state_right" = some (some (.ref f__law_state_right)))
    (l__law_state_right : K.lookup f__law_state_right = some ⟨ocv87, odv87, .func (PySem.W.fnOf "_law_state_right" "_law_state_right" (defArgs s__law_state_right) (defBody s__law_state_right) (defScope s__law_state_right) .none kVv87 dcv87 pmv87 anv87 cdv87 ctv87), slv87⟩)
    (c__law_state_right : PySem.W.codeIn K cdv87 "_law_state_right" = true)
    (k__law_state_right : PySem.W.keepIn K (.ref f__law_state_right) = true)
    (n__law_onward : PySem.W.nsIn K mainGlobals "_law_onward" = some (some (.ref f__law_onward)))
    (l__law_onward : K.lookup f__law_onward = some ⟨ocv88, odv88, .func (PySem.W.fnOf "_law_onward" "_law_onward" (defArgs s__law_onward) (defBody s__law_onward) (defScope s__law_onward) .none kVv88 dcv88 pmv88 anv88 cdv88 ctv88), slv88⟩)
    (c__law_onward : PySem.W.codeIn K cdv88 "_law_onward" = true)
    (k__law_onward : PySem.W.keepIn K (.ref f__law_onward) = true)
    (n_law : PySem.W.nsIn K mainGlobals "law" = some (some (.ref f_law)))
    (l_law : K.lookup f_law = some ⟨ocv89, odv89, .func (PySem.W.fnOf "law" "law" (defArgs s_law) (defBody s_law) (defScope s_law) .none kVv89 dcv89 pmv89 anv89 cdv89 ctv89), slv89⟩)
    (c_law : PySem.W.codeIn K cdv89 "law" = true)
    (k_law : PySem.W.keepIn K (.ref f_law) = true) :
    ∃ fd : FuncData, (∀ (s : Shared) (v : Value), BindsTo s fd ⟨[v], []⟩ [("_law_script", v)]) ∧ ∀ base : Heap, K.In base → base.Ns mainGlobals mg → Gd l.prog w K mg base CX0 4 fa fd ["_law_script"] (spLaw K) := by
  have e := hfa.symm.trans (PySem.W.mg_of X G n_law)
  cases e
  have B : Bi mg := ⟨PySem.W.mg_none_of X G no_int, PySem.W.mg_none_of X G no_len, PySem.W.mg_none_of X G no_abs, PySem.W.mg_none_of X G no_list, PySem.W.mg_none_of X G no_repr, PySem.W.mg_none_of X G no_range, PySem.W.mg_none_of X G no_str⟩
  have T : KT K w mg C aW aI mc := {
    g_Kind := PySem.W.mg_of X G n_Kind
    g_SPENT := ⟨_, PySem.W.mg_of X G n_SPENT⟩
    g_WRITES := PySem.W.mg_of X G n_WRITES
    g_INVERTED := PySem.W.mg_of X G n_INVERTED
    g_isinstance := PySem.W.mg_none_of X G no_isinstance
    cl := ⟨pg, hd, po, fd_C_setattr⟩
    nR := fd_C_reading
    nW := fd_C_writing
    nD := fd_C_device
    nS := fd_C_states
    rd := ⟨rdI, gaI⟩
    cR := ⟨aR, ⟨v_READINGS, rfl⟩, ktup q_aR rfl (.cons ⟨_, rfl⟩ (.cons ⟨_, rfl⟩ (.nil)))⟩
    cW := ⟨bW, ⟨v_WRITINGS, rfl⟩, ktup q_bW rfl (.cons ⟨_, rfl⟩ (.cons ⟨_, rfl⟩ (.cons ⟨_, rfl⟩ (.cons ⟨_, rfl⟩ (.cons ⟨_, rfl⟩ (.cons ⟨_, rfl⟩ (.cons ⟨_, rfl⟩ (.nil))))))))⟩
    cD := ⟨aD, ⟨v_DEVICES, rfl⟩, ktup q_aD rfl (.cons ⟨_, rfl⟩ (.cons ⟨_, rfl⟩ (.cons ⟨_, rfl⟩ (.cons ⟨_, rfl⟩ (.nil)))))⟩
    tW := fun x hx => by
      simp only [WR, List.mem_cons, List.not_mem_nil, or_false] at hx
      rcases hx with rfl | rfl | rfl | rfl | rfl | rfl | rfl
      · exact ⟨w_store, w_storea, w_storeb, ⟨esW, nW_, _, lW, kW, g_w_store, rfl⟩, ktup q_w_store rfl (.cons rfl (.cons rfl .nil)), ktup q_w_storea rfl (.cons ⟨_, rfl⟩ (.cons ⟨_, rfl⟩ .nil)), ktup q_w_storeb rfl (.cons ⟨_, rfl⟩ (.cons ⟨_, rfl⟩ .nil))⟩
      · exact ⟨w_clear1, w_clear1a, w_clear1b, ⟨esW, nW_, _, lW, kW, g_w_clear1, rfl⟩, ktup q_w_clear1 rfl (.cons rfl (.cons rfl .nil)), ktup q_w_clear1a rfl (.cons ⟨_, rfl⟩ (.cons ⟨_, rfl⟩ .nil)), ktup q_w_clear1b rfl (.cons ⟨_, rfl⟩ (.cons ⟨_, rfl⟩ .nil))⟩
      · exact ⟨w_clear0, w_clear0a, w_clear0b, ⟨esW, nW_, _, lW, kW, g_w_clear0, rfl⟩, ktup q_w_clear0 rfl (.cons rfl (.cons rfl .nil)), ktup q_w_clear0a rfl (.cons ⟨_, rfl⟩ (.cons ⟨_, rfl⟩ .nil)), ktup q_w_clear0b rfl (.cons ⟨_, rfl⟩ (.cons ⟨_, rfl⟩ .nil))⟩
      · exact ⟨w_set1, w_set1a, w_set1b, ⟨esW, nW_, _, lW, kW, g_w_set1, rfl⟩, ktup q_w_set1 rfl (.cons rfl (.cons rfl .nil)), ktup q_w_set1a rfl (.cons ⟨_, rfl⟩ (.cons ⟨_, rfl⟩ .nil)), ktup q_w_set1b rfl (.cons ⟨_, rfl⟩ (.cons ⟨_, rfl⟩ .nil))⟩
      · exact ⟨w_flip1, w_flip1a, w_flip1b, ⟨esW, nW_, _, lW, kW, g_w_flip1, rfl⟩, ktup q_w_flip1 rfl (.cons rfl (.cons rfl .nil)), ktup q_w_flip1a rfl (.cons ⟨_, rfl⟩ (.cons ⟨_, rfl⟩ .nil)), ktup q_w_flip1b rfl (.cons ⟨_, rfl⟩ (.cons ⟨_, rfl⟩ .nil))⟩
      · exact ⟨w_once, w_oncea, w_onceb, ⟨esW, nW_, _, lW, kW, g_w_once, rfl⟩, ktup q_w_once rfl (.cons rfl (.cons rfl .nil)), ktup q_w_oncea rfl (.cons ⟨_, rfl⟩ (.cons ⟨_, rfl⟩ .nil)), ktup q_w_onceb rfl (.cons ⟨_, rfl⟩ (.cons ⟨_, rfl⟩ .nil))⟩
      · exact ⟨w_none, w_nonea, w_noneb, ⟨esW, nW_, _, lW, kW, g_w_none, rfl⟩, ktup q_w_none rfl (.cons rfl (.cons rfl .nil)), ktup q_w_nonea rfl (.cons ⟨_, rfl⟩ (.cons ⟨_, rfl⟩ .nil)), ktup q_w_noneb rfl (.cons ⟨_, rfl⟩ (.cons ⟨_, rfl⟩ .nil))⟩
    tI := fun x hx => by
      simp only [DV, List.mem_cons, List.not_mem_nil, or_false] at hx
      rcases hx with rfl | rfl | rfl | rfl
      · exact ⟨i_still, ⟨esI, nI_, _, lI, kI, g_i_still, rfl⟩, ktup q_i_still rfl (.nil)⟩
      · exact ⟨i_raise, ⟨esI, nI_, _, lI, kI, g_i_raise, rfl⟩, ktup q_i_raise rfl (.cons ⟨_, rfl⟩ (.nil))⟩
      · exact ⟨i_end, ⟨esI, nI_, _, lI, kI, g_i_end, rfl⟩, ktup q_i_end rfl (.cons ⟨_, rfl⟩ (.nil))⟩
      · exact ⟨i_drift, ⟨esI, nI_, _, lI, kI, g_i_drift, rfl⟩, ktup q_i_drift rfl (.cons ⟨_, rfl⟩ (.cons ⟨_, rfl⟩ (.nil)))⟩
    isC := fd_C_class
    isG := isG
    isT := isT
    isM := isM }
  refine ⟨PySem.W.fnOf "law" "law" (defArgs s_law) (defBody s_law) (defScope s_law) .none kVv89 dcv89 pmv89 anv89 cdv89 ctv89, fun s v => .of_eq rfl, fun base _ _ => ?_⟩
  have D_law_pen := defAt_of X G n__law_pen l__law_pen c__law_pen k__law_pen bd__law_pen
  have D_law_draw := defAt_of X G n__law_draw l__law_draw c__law_draw k__law_draw bd__law_draw
  have D_law_write := defAt_of X G n__law_write l__law_write c__law_write k__law_write bd__law_write
  have D_law_read := defAt_of X G n__law_read l__law_read c__law_read k__law_read bd__law_read
  have D_law_deeds := defAt_of X G n__law_deeds l__law_deeds c__law_deeds k__law_deeds bd__law_deeds
  have D_law_words := defAt_of X G n__law_words l__law_words c__law_words k__law_words bd__law_words
  have D_law_state_right := defAt_of X G n__law_state_right l__law_state_right c__law_state_right k__law_state_right bd__law_state_right
  have D_law_onward := defAt_of X G n__law_onward l__law_onward c__law_onward k__law_onward bd__law_onward
  have M_init := metAt_of a_Kind___init__ i_Kind___init__ l_Kind___init__ c_Kind___init__ k_Kind___init__ bd_Kind___init__
  have M_after_read := metAt_of a_Kind_after_read i_Kind_after_read l_Kind_after_read c_Kind_after_read k_Kind_after_read bd_Kind_after_read
  have M_after_write := metAt_of a_Kind_after_write i_Kind_after_write l_Kind_after_write c_Kind_after_write k_Kind_after_write bd_Kind_after_write
  have M_unguarded := metAt_of a_Kind_unguarded i_Kind_unguarded l_Kind_unguarded c_Kind_unguarded k_Kind_unguarded bd_Kind_unguarded
  have M_deeds := metAt_of a_Kind_deeds i_Kind_deeds l_Kind_deeds c_Kind_deeds k_Kind_deeds bd_Kind_deeds
  have M_eq := metAt_of a_Kind___eq__ i_Kind___eq__ l_Kind___eq__ c_Kind___eq__ k_Kind___eq__ bd_Kind___eq__
  have M_str := metAt_of a_Kind___str__ i_Kind___str__ l_Kind___str__ c_Kind___str__ k_Kind___str__ bd_Kind___str__
  obtain ⟨fd1, x1, F1, b1, G1⟩ := ok_IN (P := l.prog) (base := base) M_init T
  obtain ⟨fd2, x2, F2, b2, G2⟩ := ok_AR (P := l.prog) (base := base) M_after_read T
  obtain ⟨fd3, x3, F3, b3, G3⟩ := ok_UN (P := l.prog) (base := base) M_unguarded T
  obtain ⟨fd4, x4, F4, b4, G4⟩ := ok_AW (P := l.prog) (base := base) M_after_write T ⟨fd3, _, x3, b3, G3⟩
  obtain ⟨fd5, x5, F5, b5, G5⟩ := ok_DE (P := l.prog) (base := base) M_deeds T
  obtain ⟨fd6, x6, F6, b6, G6⟩ := ok_EQ (P := l.prog) (base := base) M_eq T
  obtain ⟨fd7, x7, F7, b7, G7⟩ := ok_ST (P := l.prog) (base := base) M_str T
  have one : ∀ {m qual : Str} {st : Stmt} {ps : List Str} {k : Str}, BindOkK m qual st ps 1 [k] [0] → BindOkK m qual st ps 1 [k] [0] := fun h => h
  have MA : Kall l.prog w K mg base C := ⟨⟨_, fd2, _, x2, kbn_of F2 1 ["state"] [0] (fun _ _ _ _ _ _ us ws h1 h2 => match us, ws, h1, h2 with | [_], [_], _, _ => rfl), G2⟩, ⟨_, fd4, _, x4, b4, G4⟩,
    ⟨_, fd4, _, x4, kbn_of F4 1 ["bit", "state"] [1, 0] (fun _ _ _ _ _ _ us ws h1 h2 => match us, ws, h1, h2 with | [_], [_, _], _, _ => rfl), G4⟩,
    ⟨_, fd3, _, x3, kbn_of F3 1 ["bit", "state"] [1, 0] (fun _ _ _ _ _ _ us ws h1 h2 => match us, ws, h1, h2 with | [_], [_, _], _, _ => rfl), G3⟩,
    ⟨_, fd5, _, x5, kbn_of F5 1 ["state"] [0] (fun _ _ _ _ _ _ us ws h1 h2 => match us, ws, h1, h2 with | [_], [_], _, _ => rfl), G5⟩⟩
  have c1 := ok_draw (P := l.prog) (w := w) (base := base) D_law_draw B
  have c2 := ok_pen (P := l.prog) (w := w) (base := base) D_law_pen B
  have c3 := ok_rdL (P := l.prog) (w := w) (base := base) D_law_read
  have c4 := ok_dvL (P := l.prog) (w := w) (base := base) D_law_deeds
  have c5 := ok_wrL (P := l.prog) (w := w) (base := base) D_law_write
  have c6 := ok_words (P := l.prog) (w := w) (base := base) D_law_words c1
  have c7 := ok_right (P := l.prog) (w := w) (base := base) D_law_state_right T MA c3 c4 c5
  have c8 := ok_on (P := l.prog) (w := w) (base := base) D_law_onward c1 c3 c4 c5
  exact ok_law (fun_mk (st := s_law) l_law c_law k_law) T B c2 c1 c6 c7 c8 ⟨mk, a_Kind___init__, i_Kind___init__, kc⟩ G1 b1
    (kbn_of F1 1 ["device", "writing", "reading"] [2, 1, 0] (fun _ _ _ _ _ _ us ws h1 h2 => match us, ws, h1, h2 with | [_], [_, _, _], _, _ => rfl))
    G7 b7 a_Kind___str__ i_Kind___str__ G6 b6 a_Kind___eq__ i_Kind___eq__ fd_C_ne
end Law
open PySem PySem.W PyProof.Rows
set_option maxRecDepth 100000 in
set_option maxHeartbeats 0 in
theorem PySem.Challenge.cw_keptbits_k07_kinds_walked_holds : PySem.Challenge.rw_keptbits_k07_kinds_walked.Holds := by
  w_on; o_law; k_head; (case hw => w_witness2)
  k_fill
  refine KG.walk_gdK (CX := L2.CX0) (sp := Law.spLaw) (k := 4) (n := 63) (x := "_law_script") (l := PySem.Challenge.rw_keptbits_k07_kinds_walked) rfl (by decide) rfl ⟨rfl, by decide, by decide⟩ (fun w h Y => PySem.W.kIn_of Y) ?F ?g1 ?g2
  case g1 => exact fun K H a ns hl _ hS => ⟨a, ns, rfl, hS, hl, fun _ => rfl⟩
  case g2 => exact fun _ _ _ _ z => z
  case F =>
    intro w mg fa h KX G hmg
    refine' Law.all KX G hmg ?n_Kind ?n_WRITES ?n_INVERTED ?n_SPENT ?no_int ?no_len ?no_abs ?no_list ?no_repr ?no_range ?no_str ?no_isinstance ?pg ?hd ?po ?fd_C_setattr ?fd_C_reading ?fd_C_writing ?fd_C_device ?fd_C_states ?fd_C_class ?fd_C_ne ?isG ?isT ?isM ?mk ?kc ?mcT ?rdI ?gaI ?v_READINGS ?q_aR ?v_WRITINGS ?q_bW ?v_DEVICES ?q_aD ?lW ?lI ?kW ?kI ?g_w_store ?q_w_store ?q_w_storea ?q_w_storeb ?g_w_clear1 ?q_w_clear1 ?q_w_clear1a ?q_w_clear1b ?g_w_clear0 ?q_w_clear0 ?q_w_clear0a ?q_w_clear0b ?g_w_set1 ?q_w_set1 ?q_w_set1a ?q_w_set1b ?g_w_flip1 ?q_w_flip1 ?q_w_flip1a ?q_w_flip1b ?g_w_once ?q_w_once ?q_w_oncea ?q_w_onceb ?g_w_none ?q_w_none ?q_w_nonea ?q_w_noneb ?g_i_still ?q_i_still ?g_i_raise ?q_i_raise ?g_i_end ?q_i_end ?g_i_drift ?q_i_drift ?a_Kind___init__ ?i_Kind___init__ ?l_Kind___init__ ?c_Kind___init__ ?k_Kind___init__ ?a_Kind_after_read ?i_Kind_after_read ?l_Kind_after_read ?c_Kind_after_read ?k_Kind_after_read ?a_Kind_after_write ?i_Kind_after_write ?l_Kind_after_write ?c_Kind_after_write ?k_Kind_after_write ?a_Kind_unguarded ?i_Kind_unguarded ?l_Kind_unguarded ?c_Kind_unguarded ?k_Kind_unguarded ?a_Kind_deeds ?i_Kind_deeds ?l_Kind_deeds ?c_Kind_deeds ?k_Kind_deeds ?a_Kind___eq__ ?i_Kind___eq__ ?l_Kind___eq__ ?c_Kind___eq__ ?k_Kind___eq__ ?a_Kind___str__ ?i_Kind___str__ ?l_Kind___str__ ?c_Kind___str__ ?k_Kind___str__ ?n__law_pen ?l__law_pen ?c__law_pen ?k__law_pen ?n__law_draw ?l__law_draw ?c__law_draw ?k__law_draw ?n__law_write ?l__law_write ?c__law_write ?k__law_write ?n__law_read ?l__law_read ?c__law_read ?k__law_read ?n__law_deeds ?l__law_deeds ?c__law_deeds ?k__law_deeds ?n__law_words ?l__law_words ?c__law_words ?k__law_words ?n__law_state_right ?l__law_state_right ?c__law_state_right ?k__law_state_right ?n__law_onward ?l__law_onward ?c__law_onward ?k__law_onward ?n_law ?l_law ?c_law ?k_law
    (case n_Kind => k_is)
    (case n_WRITES => k_is)
    (case n_INVERTED => k_is)
    (case n_SPENT => k_is)
    (case no_int => k_is)
    (case no_len => k_is)
    (case no_abs => k_is)
    (case no_list => k_is)
    (case no_repr => k_is)
    (case no_range => k_is)
    (case no_str => k_is)
    (case no_isinstance => k_is)
    (case pg => k_is)
    (case hd => k_is)
    (case po => k_is)
    (case fd_C_setattr => k_is)
    (case fd_C_reading => k_is)
    (case fd_C_writing => k_is)
    (case fd_C_device => k_is)
    (case fd_C_states => k_is)
    (case fd_C_class => k_is)
    (case fd_C_ne => k_is)
    (case isG => k_is)
    (case isT => k_is)
    (case isM => k_is)
    (case mk => k_is)
    (case kc => k_is)
    (case mcT => k_is)
    (case rdI => k_is)
    (case gaI => k_is)
    (case v_READINGS => k_is)
    (case q_aR => k_is)
    (case v_WRITINGS => k_is)
    (case q_bW => k_is)
    (case v_DEVICES => k_is)
    (case q_aD => k_is)
    (case lW => k_is)
    (case lI => k_is)
    (case kW => repeat (first | exact True.intro | refine ⟨⟨_, _, rfl, rfl⟩, ?_⟩))
    (case kI => repeat (first | exact True.intro | refine ⟨⟨_, _, rfl, rfl⟩, ?_⟩))
    (case g_w_store => k_is)
    (case q_w_store => k_is)
    (case q_w_storea => k_is)
    (case q_w_storeb => k_is)
    (case g_w_clear1 => k_is)
    (case q_w_clear1 => k_is)
    (case q_w_clear1a => k_is)
    (case q_w_clear1b => k_is)
    (case g_w_clear0 => k_is)
    (case q_w_clear0 => k_is)
    (case q_w_clear0a => k_is)
    (case q_w_clear0b => k_is)
    (case g_w_set1 => k_is)
    (case q_w_set1 => k_is)
    (case q_w_set1a => k_is)
    (case q_w_set1b => k_is)
    (case g_w_flip1 => k_is)
    (case q_w_flip1 => k_is)
    (case q_w_flip1a => k_is)
    (case q_w_flip1b => k_is)
    (case g_w_once => k_is)
    (case q_w_once => k_is)
    (case q_w_oncea => k_is)
    (case q_w_onceb => k_is)
    (case g_w_none => k_is)
    (case q_w_none => k_is)
    (case q_w_nonea => k_is)
    (case q_w_noneb => k_is)
    (case g_i_still => k_is)
    (case q_i_still => k_is)
    (case g_i_raise => k_is)
    (case q_i_raise => k_is)
    (case g_i_end => k_is)
    (case q_i_end => k_is)
    (case g_i_drift => k_is)
    (case q_i_drift => k_is)
    (case a_Kind___init__ => k_is)
    (case i_Kind___init__ => k_is)
    (case l_Kind___init__ => k_is)
    (case c_Kind___init__ => k_is)
    (case k_Kind___init__ => k_is)
    (case a_Kind_after_read => k_is)
    (case i_Kind_after_read => k_is)
    (case l_Kind_after_read => k_is)
    (case c_Kind_after_read => k_is)
    (case k_Kind_after_read => k_is)
    (case a_Kind_after_write => k_is)
    (case i_Kind_after_write => k_is)
    (case l_Kind_after_write => k_is)
    (case c_Kind_after_write => k_is)
    (case k_Kind_after_write => k_is)
    (case a_Kind_unguarded => k_is)
    (case i_Kind_unguarded => k_is)
    (case l_Kind_unguarded => k_is)
    (case c_Kind_unguarded => k_is)
    (case k_Kind_unguarded => k_is)
    (case a_Kind_deeds => k_is)
    (case i_Kind_deeds => k_is)
    (case l_Kind_deeds => k_is)
    (case c_Kind_deeds => k_is)
    (case k_Kind_deeds => k_is)
    (case a_Kind___eq__ => k_is)
    (case i_Kind___eq__ => k_is)
    (case l_Kind___eq__ => k_is)
    (case c_Kind___eq__ => k_is)
    (case k_Kind___eq__ => k_is)
    (case a_Kind___str__ => k_is)
    (case i_Kind___str__ => k_is)
    (case l_Kind___str__ => k_is)
    (case c_Kind___str__ => k_is)
    (case k_Kind___str__ => k_is)
    (case n__law_pen => k_is)
    (case l__law_pen => k_is)
    (case c__law_pen => k_is)
    (case k__law_pen => k_is)
    (case n__law_draw => k_is)
    (case l__law_draw => k_is)
    (case c__law_draw => k_is)
    (case k__law_draw => k_is)
    (case n__law_write => k_is)
    (case l__law_write => k_is)
    (case c__law_write => k_is)
    (case k__law_write => k_is)
    (case n__law_read => k_is)
    (case l__law_read => k_is)
    (case c__law_read => k_is)
    (case k__law_read => k_is)
    (case n__law_deeds => k_is)
    (case l__law_deeds => k_is)
    (case c__law_deeds => k_is)
    (case k__law_deeds => k_is)
    (case n__law_words => k_is)
    (case l__law_words => k_is)
    (case c__law_words => k_is)
    (case k__law_words => k_is)
    (case n__law_state_right => k_is)
    (case l__law_state_right => k_is)
    (case c__law_state_right => k_is)
    (case k__law_state_right => k_is)
    (case n__law_onward => k_is)
    (case l__law_onward => k_is)
    (case c__law_onward => k_is)
    (case k__law_onward => k_is)
    (case n_law => k_is)
    (case l_law => k_is)
    (case c_law => k_is)
    (case k_law => k_is)
#print axioms PySem.Challenge.cw_keptbits_k07_kinds_walked_holds
