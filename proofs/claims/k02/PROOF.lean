import PyProof.Rows.All
import Wide.All
import OpenK.AllK
import Wide.FinOn
import PyProof.ReprRoads
import HandS.ForMost
import HandS.ForExc
import HandS.IsInst
import HandS.Walk
import HandS.Flow
import HandS.RaiseMore

import PySem.Challenge.RW_parcelindex_k02_names_words_and_paths
set_option Elab.async false
set_option maxRecDepth 100000
set_option maxHeartbeats 4000000

/-! ## Calls with the stack's repr marks known to be none: a def's promise, its body's rule, calls, the end -/
namespace Pk
open PySem PySem.Spec PyProof.Rows L2

/-- a def keeps its promise wherever no repr runs around it -/
structure FnG (P : Program) (w : World) (K : PySem.W.Frag) (mg : Str → Option Value) (base : Heap) (k : Nat) (f : Addr) (fd : FuncData) (ps : List Str) (sp : Sp) : Prop where
  lenG : ∀ vs H Q E, sp vs H Q E → vs.length = ps.length
  runG : ∀ (A : Around) (outer : List Env) (s : Shared) (H : Hp) (args : Args) (us : List Value) (vs : List V) (Q : VK),
    A.guards = some [] → Room k A → Env0 P w K mg base A outer s H →
    BindsTo s fd args (ps.zip us) → Vals vs us → sp vs H Q E0 →
    codeAny (model P w) A (.call (.ref f) args) (CR CX0 outer P w H s Q E0) s

section
variable {P : Program} {w : World} {K : PySem.W.Frag} {mg : Str → Option Value} {base : Heap}
theorem FnG.of {k : Nat} {f : Addr} {fd : FuncData} {ps : List Str} {sp : Sp} (F : FnOk P w K mg base CX0 k f fd ps sp) : FnG P w K mg base k f fd ps sp :=
  ⟨F.len, fun A outer s H args us vs Q _ h1 h2 h3 h4 h5 => F.run A outer s H args us vs Q E0 h1 h2 h3 h4 h5⟩

/-- the rule for a def's body, with the marks known -/
theorem fnG_of {x qual : Str} {st : Stmt} {f : Addr} {fd : FuncData} {N ps : List Str} {k : Nat} {sp : Sp} (F : Fun K x qual st f fd)
    (S : FnScope N ps (defScope st)) (len : ∀ vs H Q E, sp vs H Q E → vs.length = ps.length)
    (hbody : ∀ (cdv : Value) (A : Around) (outer : List Env) (s : Shared) (H : Hp) (vs : List V) (Q : VK),
      A.guards = some [] → Room k (A.deeper (envOfC qual (defScope st) s.heap.objs.size f cdv)) → sp vs H Q E0 →
      ∃ t, PSs (cxOf CX0 P w K mg base N qual (defScope st) f cdv A outer s H E0).nox (defBody st) t ∧
        t { nx := fun _ H' => Q .non H', rt := Q } (start N vs) H) :
    FnG P w K mg base (k + 1) f fd ps sp := by
  obtain ⟨oc, od, kV, doc, pm, an, cdv, ct, osl, rfl, lk, hcd⟩ := F.ex
  refine ⟨len, ?_⟩
  intro A outer s H args us vs Q hg hr e0 hb r hsp
  have hlen := len _ _ _ _ hsp
  have inK : K.In s.heap := e0.mod.kin.keeps (fun b o e => (e0.bs b o e).1)
  have nolim : s.heap.NoLimit := e0.mod.nolimit.keeps (fun b o e => (e0.bs b o e).1)
  have hk : ∀ y ∈ ps.zip us, (defScope st).names.lookup y.1 = some .local ∨ ((defScope st).names.lookup y.1 = some .cell ∧
      ((cellsFrom (s.heap.objs.size + 1) (defScope st).names []).lookup y.1).isSome = true) := by
    rintro ⟨n, v⟩ hy
    rcases S.par n (List.of_mem_zip hy).1 with q | q
    · exact Or.inl q
    · exact Or.inr ⟨q, PySem.W.cellsFrom_some _ _ _ (Or.inl q)⟩
  refine codeAny_call_function hr.depth (inK _ _ lk) rfl S.co S.gen rfl (PySem.W.codeRec_of inK hcd) (hb _ _ _ _ ?_)
  refine wpAny_newFunctionEnv_cells S.kind hk ?_
  intro env he s1 x
  subst he
  refine ⟨nolim.keeps x.toInCall.keep, codeAny_func ?_⟩
  obtain ⟨t, ht0, hq⟩ := hbody cdv A outer s H vs Q hg (hr.deeper _) hsp
  have ht := ht0.nox
  have J0 : Inv (cxOf CX0 P w K mg base N qual (defScope st) f cdv A outer s H E0) [] (start N vs) H s1 := inv_start S hr.hd e0 hlen r x
  have fin : ∀ {σ' : L2.St} {H' : Hp} {s' : Shared} {v : V} {u : Value},
      Inv (cxOf CX0 P w K mg base N qual (defScope st) f cdv A outer s H E0) [] σ' H' s' → RelV v u → Q v H' → CE outer P w H s Q u s' :=
    fun {σ' H' s' v u} J rv q => ⟨v, H', J.os, J.bare, J.base, J.hok, rv, q⟩
  refine wpAny_mono (ht.run [] s1 (start N vs) H _ J0 hq) ?_ (fun e s' hs => hs)
  rintro (_ | _ | _ | u) s' hs
  · obtain ⟨σ', H', J, q⟩ := hs
    exact fin (v := V.non) (u := Value.none) J rfl q
  · obtain ⟨_, _, _, q⟩ := hs
    exact q.elim
  · obtain ⟨_, _, _, q⟩ := hs
    exact q.elim
  · obtain ⟨v, σ', H', J, rv, q⟩ := hs
    exact fin J rv q
end

section
variable {X : Cx} {k : Nat} {f : Addr} {fd : FuncData} {ps ks : List Str} {sp : Sp} {x : Str} {p pos : Pos} {e : Expr} {es : List Expr} {t tk : TA} {kws : List Keyword}
theorem run_g {pins : List (Addr × Obj)} {σ : L2.St} {H : Hp} {s : Shared} {Q : VK} {args : Args} {us : List Value} {vs : List V}
    (F : FnG X.prog X.w X.K X.mg X.base k f fd ps sp) (hg : X.A.guards = some []) (hr : Room k X.A)
    (hb : BindsTo s fd args (ps.zip us)) (I : Inv X pins σ H s) (r : Vals vs us) (h : sp vs H Q E0) :
    codeAny (model X.prog X.w) X.A (.call (.ref f) args) (fun r s' => match r with | .ok (.ret v) => EP X pins σ Q v s' | .ok _ => False | .error e => X.xe e s') s := by
  refine codeAny_mono (F.runG X.A X.stack s H args us vs Q hg hr I.env0 hb r h) ?_
  rintro (e | fl) s' hq
  · exact (show False from hq).elim
  · cases fl with
    | ret u => exact I.after hq
    | next => exact (show False from hq).elim
    | brk => exact (show False from hq).elim
    | cont => exact (show False from hq).elim
/-- f(..), the parameters all given by position -/
theorem pe_callG (F : FnG X.prog X.w X.K X.mg X.base k f fd ps sp) (hgu : X.A.guards = some []) (hr : Room k X.A) (hg : Gl X x) (hm : X.mg x = some (.ref f))
    (hk : PySem.W.keepIn X.K (.ref f) = true) (hb : Binds X.K fd ps []) (ha : PA X (e :: es) t) (hdb : (x == ("__debug__" : Str)) = false := by decide)
    (he : starEach (e :: es) X.env = (false, eval e X.env) :: starEach es X.env := by rfl)
    (hpl : (backTo pos (starEach es X.env)).any (·.1) = false := by rfl) :
    PE X (.Call (.Name x p) (e :: es) [] pos) (tCall sp [] E0 t) := by
  constructor
  intro pins s σ H Q I h
  refine wpAny_Call_Name_kw (ld_glob I hg hm ?_ hdb)
  refine PySem.W.callWith_K (h₀ := X.base) I.ok.mod.kin hk (thn (ha.run pos pins s σ H _ I h) ?_) he hpl
  intro us s1 ⟨vs, H1, I1, r, q⟩
  have q' : sp vs H1 Q E0 := by
    have q0 : sp (vs ++ []) H1 Q E0 := q
    rw [List.append_nil] at q0
    exact q0
  have hl : (us ++ []).length = ps.length := by rw [List.append_nil, ← r.length]; exact F.lenG _ _ _ _ q'
  refine ⟨I1.kIn, wpAny_call (run_g F hgu hr ?_ I1 r q')⟩
  have hb1 := hb s1 us I1.kIn hl
  rw [List.append_nil] at hb1
  exact hb1
theorem pe_callG0 (F : FnG X.prog X.w X.K X.mg X.base k f fd ps sp) (hgu : X.A.guards = some []) (hr : Room k X.A) (hg : Gl X x) (hm : X.mg x = some (.ref f))
    (hk : PySem.W.keepIn X.K (.ref f) = true) (hb : Binds X.K fd ps []) (hdb : (x == ("__debug__" : Str)) = false := by decide) :
    PE X (.Call (.Name x p) [] [] pos) (tCall sp [] E0 tNil) := by
  constructor
  intro pins s σ H Q I h
  refine wpAny_Call_Name_kw (ld_glob I hg hm ?_ hdb)
  refine PySem.W.callWith_K0 I.kIn hk ?_
  have q' : sp [] H Q E0 := h
  have hl : (([] : List Value) ++ []).length = ps.length := by rw [List.append_nil]; exact F.lenG _ _ _ _ q'
  exact wpAny_call (run_g F hgu hr (hb s [] I.kIn hl) I .nil q')
/-- how keywords alone bind: the values are put in the parameters' order by pm -/
structure KB (K : PySem.W.Frag) (fd : FuncData) (ps ks : List Str) : Prop where
  toK : ∀ (s : Shared) (ws : List Value), K.In s.heap → ws.length = ps.length → BindsTo s fd ⟨[], ks.zip ws⟩ (ps.zip ws)
/-- f(k = v, ..), the keywords in the parameters' order -/
theorem pe_kwG (F : FnG X.prog X.w X.K X.mg X.base k f fd ps sp) (hgu : X.A.guards = some []) (hr : Room k X.A) (hg : Gl X x) (hm : X.mg x = some (.ref f))
    (hk : PySem.W.keepIn X.K (.ref f) = true) (hb : KB X.K fd ps ks) (hkw : PK X kws tk) (hall : (backToKw pos (keywordEach kws X.env)).all (·.1.isSome) = true := by rfl)
    (hks : (backToKw pos (keywordEach kws X.env)).filterMap (·.1) = ks := by rfl) (hdb : (x == ("__debug__" : Str)) = false := by decide)
    (hpl : ((backTo pos (starEach [] X.env)).any (·.1) || (backToKw pos (keywordEach kws X.env)).any (·.1.isNone)) = false := by rfl) :
    PE X (.Call (.Name x p) [] kws pos) (tCall sp [] E0 tk) := by
  constructor
  intro pins s σ H Q I h
  refine wpAny_Call_Name_kw (ld_glob I hg hm ?_ hdb)
  refine PySem.W.callWith_KW0 (h₀ := X.base) I.ok.mod.kin hk hall (thn (hkw.run pos pins s σ H _ I h) ?_) hpl
  intro ws s1 ⟨zs, H1, I1, r, q⟩
  have q' : sp zs H1 Q E0 := by
    have q0 : sp (zs ++ []) H1 Q E0 := q
    rw [List.append_nil] at q0
    exact q0
  rw [hks]
  exact ⟨I1.kIn, wpAny_call (run_g F hgu hr (hb.toK s1 ws I1.kIn (by rw [← r.length]; exact F.lenG _ _ _ _ q')) I1 r q')⟩
end

/-! ### repr of data -/
section
variable {X : Cx}
def rRepr (K : PySem.W.Frag) : List V → Hp → VK → Prop := fun xs H Q => ∃ x d, xs = [x] ∧ Dp K H x d ∧ d.showable = true ∧ d.hasDict = false ∧ d.depth ≤ 60 ∧ d.shown.length ≤ sizeLine ∧ Q (.str d.shown) H
theorem call_repr (hgu : X.A.guards = some []) (hu : X.A.units + 64 < cLine) : CallR X (.builtin "repr") (rRepr X.K) := by
  intro pins s σ H xs us Q I r h
  obtain ⟨x, d, rfl, hd, hs, hnd, hdp, hz, q⟩ := h
  obtain ⟨u, rfl, rx⟩ := vals1 r
  have hsm : ∀ as : List Addr, d.hasDict = true → sysModules ∉ as := fun as e => by
    rw [hnd] at e
    cases e
  obtain ⟨as, rd⟩ := Dp.reads I d x u hd rx
  cases hd with
  | non =>
    obtain rfl : u = Value.none := rx
    exact PySem.P.repr_of_none ⟨.str _, H, I.tok _, ⟨_, rfl⟩, q⟩
  | bl b =>
    obtain rfl : u = Value.bool b := rx
    exact PySem.P.repr_of_bool ⟨.str _, H, I.tok _, ⟨_, rfl⟩, by simpa only [PyData.shown] using q⟩
  | int i =>
    obtain ⟨t, rfl⟩ := rx
    exact PySem.P.repr_of_int (by simpa [PyData.showable] using hs) ⟨.str _, H, I.tok _, ⟨_, rfl⟩, by simpa only [PyData.shown] using q⟩
  | str y =>
    obtain ⟨t, rfl⟩ := rx
    exact PySem.P.repr_of_str ⟨.str _, H, I.tok _, ⟨_, rfl⟩, by simpa only [PyData.shown] using q⟩ (by simpa only [PyData.shown] using hz)
  | lst =>
    rename_i a _ _ _ _
    obtain rfl : u = Value.ref a := rx
    exact repr_of_reads' (h₀ := s.heap) rd hs (hsm as) hgu (by omega) (fun _ _ e => e) (fun h' v tk hk => ⟨.str _, H, I.kept hk, ⟨v, rfl⟩, q⟩) hz
  | tup =>
    rename_i a _ _ _ _
    obtain rfl : u = Value.ref a := rx
    exact repr_of_reads' (h₀ := s.heap) rd hs (hsm as) hgu (by omega) (fun _ _ e => e) (fun h' v tk hk => ⟨.str _, H, I.kept hk, ⟨v, rfl⟩, q⟩) hz
end

/-! ### the script + a list -/
/-- a list that stands with no dict and no slots of its own -/
def Bare (K : PySem.W.Frag) (H : Hp) (a : Addr) (xs : List V) : Prop :=
  (∃ (us : List Value) (n : Nat), H a = some (.frz { cls := .type "list", data := .seq us.toArray n } (.lst xs))) ∨
  (∃ (us : List Value) (n : Nat), K.lookup a = some { cls := .type "list", data := .seq us.toArray n } ∧ Vals xs us)
theorem Bare.seq {K : PySem.W.Frag} {H : Hp} {a : Addr} {xs : List V} (hz : xs.length ≤ sizeLine) (h : Bare K H a xs) : SqL K H a xs := by
  rcases h with ⟨us, n, e⟩ | ⟨us, n, e, r⟩
  · exact .inl (.inr ⟨_, e⟩)
  · refine .inr ⟨_, us.toArray, n, e, rfl, rfl, rfl, ?_, by simpa using r⟩
    rw [List.size_toArray, ← r.length]
    exact hz
theorem Bare.keep {K : PySem.W.Frag} {H H' : Hp} {a : Addr} {xs : List V} (h : Bare K H a xs) (e : Same H H') : Bare K H' a xs := by
  rcases h with ⟨us, n, q⟩ | h
  · exact .inl ⟨us, n, e _ _ q⟩
  · exact .inr h
section
variable {X : Cx}
def rCatS (K : PySem.W.Frag) : R2 := fun x y H Q => ∃ l b xs zs, x = .ref l ∧ y = .ref b ∧ Bare K H l xs ∧ H b = some (.lst zs) ∧ xs.length + zs.length ≤ sizeLine ∧
  ∀ p, H p = none → Q (.ref p) (upd H p (.lst (xs ++ zs)))
theorem op_catS : OpR X (binaryOp .Add) (rCatS X.K) := by
  intro pins s σ H x y v u Q I rx ry h
  obtain ⟨l, b, xs, zs, rfl, rfl, hl, hb, hz, q⟩ := h
  obtain rfl : v = Value.ref l := rx
  obtain rfl : u = Value.ref b := ry
  obtain ⟨z2, its2, n2, r2, hl2, e2⟩ := I.lstM hb
  have hfin : ∀ (its : List Value) (n : Nat), Vals xs its → s.heap.get? l = some { cls := .type "list", data := .seq its.toArray n } →
      wpAny (model X.prog X.w) X.A (binaryOp .Add (.ref l) (.ref b)) (EP X pins σ Q) X.xe s := by
    intro its n r e
    have hln := r.length
    refine PySem.P.add_list e e2 ?_ (by rw [List.size_toArray, List.size_toArray]; omega)
    rw [show its.toArray ++ its2.toArray = (its ++ its2).toArray by simp]
    exact ⟨.ref _, _, I.lnew (t' := s.toks) (r.append r2) (by rw [List.length_append]; exact hz), rfl, q _ I.fresh⟩
  rcases hl with ⟨us, n, e⟩ | ⟨us, n, e, r⟩
  · obtain ⟨e1, _, its, m, r, e3⟩ := I.hok l _ e
    rw [e1] at e3
    cases e3
    exact hfin _ _ r e1
  · exact hfin us n r (I.kIn l _ e)
end

/-! ### the end -/
/-- the law's own head, with the marks known and the script told to be bare -/
theorem enterG {P : Program} {w : World} {K : PySem.W.Frag} {mg mb : Str → Option Value} {k : Nat} {fa a : Addr} {fd : FuncData} {x : Str} {sp : Sp} {s₁ : Shared} {vs : List Value} {ns : List Int}
    (KX : K.In s₁.heap) (hns : s₁.heap.Ns mainGlobals mg) (hb : s₁.heap.Ns builtinsNs mb) (hbb : ∀ x : Str, x ≠ "__name__" → mb x = bootBuiltins x)
    (hlim : s₁.heap.NoLimit) (hg : s₁.gens = #[]) (ha : s₁.heap.get? a = some { cls := .type "list", data := .seq vs.toArray })
    (hi : IntsAre vs ns) (hl : ns.length ≤ sizeLine) (hr : Room k callerA)
    (F : ∀ base : Heap, K.In base → base.Ns mainGlobals mg → FnG P w K mg base k fa fd [x] sp)
    (hbind : ∀ (s : Shared) (u : Value), BindsTo s fd ⟨[u], []⟩ [(x, u)])
    (hsp : ∀ H : Hp, Bare K H a (ns.map V.int) → sp [.ref a] H (fun v _ => v = .bl true) E0) :
    codeAny (model P w) callerA (.call (.ref fa) ⟨[.ref a], []⟩)
      (fun r s' => r = .ok (.ret (.bool true)) ∧ OldK s₁.heap s'.heap ∧ s'.os = s₁.os ∧ AllBare s'.gens) s₁ := by
  have rv := vals_ints hi
  have nV := hi.length
  have core : ∀ H : Hp, Only H → Bare K H a (ns.map V.int) → HOk P w H s₁.heap → (∀ b, H b ≠ none → b = a) → (H a ≠ none → K.lookup a = none) →
      codeAny (model P w) callerA (.call (.ref fa) ⟨[.ref a], []⟩)
        (fun r s' => r = .ok (.ret (.bool true)) ∧ OldK s₁.heap s'.heap ∧ s'.os = s₁.os ∧ AllBare s'.gens) s₁ := by
    intro H hO hS hok hA hK
    have only_a : ∀ {b : Addr} {u : HO}, H b = some u → b = a := fun {b u} q => hA b (by rw [q]; simp)
    have un : ∀ {b : Addr} {o : Obj} {es : Array DictEntry} {ep : Nat}, s₁.heap.get? b = some o → o.data = .dict es ep → H b = none := by
      intro b o es ep e d
      cases q : H b with
      | none => rfl
      | some u =>
        have e' := only_a q
        rw [e', ha] at e
        cases e
        exact nomatch (show Data.seq vs.toArray _ = Data.dict es ep from d)
    have nsB : ∀ {b : Addr} {m : Str → Option Value}, s₁.heap.Ns b m → (hidT s₁.heap H).Ns b m :=
      fun {b m} ⟨o, es, ep, e, d, r⟩ => ⟨o, es, ep, hidT_get e (un e d), d, r⟩
    have inB : K.In (hidT s₁.heap H) := by
      intro b o e
      refine hidT_get (KX b o e) ?_
      cases q : H b with
      | none => rfl
      | some u =>
        have e' := only_a q
        rw [e', hK (by rw [← e', q]; simp)] at e
        cases e
    have md : Mod K mg (hidT s₁.heap H) := ⟨inB, nsB hns, ⟨mb, nsB hb, hbb⟩, let ⟨mc, h1, h2⟩ := hlim; ⟨mc, nsB h1, h2⟩⟩
    have e0 : Env0 P w K mg (hidT s₁.heap H) callerA [] s₁ H :=
      ⟨rfl, md, fun b o e => of_hidT e, Nat.le_of_eq (hidT_size _ _), trivial, fun b z => absurd (show b ∈ ([] : List Addr) from z) (by simp), hok, .of_eq hg⟩
    refine codeAny_mono ((F _ inB (nsB hns)).runG callerA [] s₁ H ⟨[.ref a], []⟩ [.ref a] [.ref a] _ rfl hr e0 (hbind s₁ (.ref a)) (.cons rfl .nil) (hsp H hS)) ?_
    rintro (e | fl) s' h
    · exact (show False from h).elim
    · cases fl with
      | next => exact (show False from h).elim
      | brk => exact (show False from h).elim
      | cont => exact (show False from h).elim
      | ret u =>
        obtain ⟨v, H', os, bare, uu, hok', r', q⟩ := h
        obtain rfl : v = .bl true := q
        obtain rfl : u = Value.bool true := r'
        refine ⟨rfl, OldK.of_keep ?_, os, bare⟩
        intro b o e
        cases q : H b with
        | none => exact uu.keep b o e q (fun z => absurd (show b ∈ ([] : List Addr) from z) (by simp)) (by simp)
        | some u =>
          rcases hO b with z | ⟨ob, xs, z⟩
          · rw [q] at z
            cases z
          · obtain ⟨e1, _⟩ := hok b _ z
            obtain ⟨e2, _⟩ := hok' b _ (uu.frzs b ob _ z)
            rw [e] at e1
            cases e1
            exact e2
  cases hk : K.lookup a with
  | some o =>
    have e := KX a o hk
    rw [ha] at e
    cases e
    exact core (fun _ => none) (fun _ => .inl rfl) (.inr ⟨vs, 0, hk, rv⟩) (fun b u z => nomatch (show (none : Option HO) = some u from z)) (fun b z => absurd rfl z) (fun z => absurd rfl z)
  | none =>
    have hat : ∀ b u, (if b = a then some (HO.frz { cls := .type "list", data := .seq vs.toArray } (.lst (ns.map V.int))) else none) = some u →
        b = a ∧ u = HO.frz { cls := .type "list", data := .seq vs.toArray } (.lst (ns.map V.int)) := by
      intro b u z
      by_cases hb : b = a
      · rw [if_pos hb] at z
        exact ⟨hb, (Option.some.inj z).symm⟩
      · rw [if_neg hb] at z
        cases z
    refine core (fun b => if b = a then some (.frz { cls := .type "list", data := .seq vs.toArray } (.lst (ns.map V.int))) else none) ?_ (.inl ⟨vs, 0, if_pos rfl⟩) ?_ ?_ (fun _ => hk)
    · intro b
      by_cases hb : b = a
      · exact .inr ⟨_, _, if_pos hb⟩
      · exact .inl (if_neg hb)
    · intro b u z
      obtain ⟨rfl, rfl⟩ := hat b u z
      exact ⟨ha, by rw [List.length_map]; exact hl, vs, _, rv, ha⟩
    · intro b z
      cases q : (if b = a then some (HO.frz { cls := .type "list", data := .seq vs.toArray } (.lst (ns.map V.int))) else none) with
      | none => exact absurd q z
      | some u => exact (hat b u q).1

/-- what the last theorem takes -/
theorem walkG {l : PySem.W.OpenLaw} {k : Nat} {q : Program} {loose : List Str} {XP : (Str → Option Value) → Heap → Prop} {YP : World → Heap → Prop} {d : DefRec} {K : Params → PySem.W.Frag} {sp : PySem.W.Frag → Sp} {x : Str}
    (hn : l.most = some 63) (hdf : d.params.defaults = []) (hr : Room k callerA) (hY : ∀ (w : World) (h : Heap), YP w h → (K w.params).In h)
    (F : ∀ (w : World) (mg : Str → Option Value) (fa : Addr) (h : Heap), (K w.params).In h → h.Ns mainGlobals mg → mg d.name = some (.ref fa) →
      ∃ fd : FuncData, (∀ (s : Shared) (u : Value), BindsTo s fd ⟨[u], []⟩ [(x, u)]) ∧
        ∀ base : Heap, (K w.params).In base → base.Ns mainGlobals mg → FnG l.prog w (K w.params) mg base k fa fd [x] (sp (K w.params)))
    (hsp : ∀ (K : PySem.W.Frag) (H : Hp) (a : Addr) (ns : List Int), ns.length ≤ 63 → Bare K H a (ns.map V.int) → sp K [.ref a] H (fun v _ => v = .bl true) E0) :
    PySem.W.WalkO q loose XP YP l.row.toRowW d [] (fun f vs => PySem.call f vs) := by
  refine Att.attach_call hn hdf ?_
  intro w s₀ s₁ mg mb fa o pm cd doc a vs ns G Y ho hd hcd hmg hobj hints hlen hg
  have KX := hY w _ Y
  obtain ⟨fd, hb, hF⟩ := F w mg fa _ KX G.T.g hmg
  exact enterG KX G.T.g G.T.b G.T.builtins G.T.nolimit hg hobj hints (Nat.le_trans hlen (by decide)) hr hF hb (fun H hS => hsp (K w.params) H a ns hlen hS)
end Pk

/-! ## Comprehensions whose element has a value that the heap does not change -/
namespace Pk
open PySem PySem.Spec PyProof.Rows L2
theorem posI {j : Int} (h : decide (0 < j) = true) : 0 < j := of_decide_eq_true h
theorem one_more {α : Type} {xs : List α} {i : Nat} {a : α} (h : xs[i]? = some a) : xs.take (i + 1) = xs.take i ++ [a] := by
  rw [List.take_add_one, h]
  rfl
theorem same_upd {H1 H : Hp} {D : Addr} {o : HO} (s : Same H1 H) (hD : H1 D = none) : Same H1 (upd H D o) := fun b u e => by
  rw [upd_ne (ne_of_none e hD)]
  exact s b u e
theorem same_new {H : Hp} {p : Addr} {o : HO} (h : H p = none) : Same H (upd H p o) := same_upd (Same.refl H) h
theorem lc_map {α : Type} {J : It} {n : Nat} {G : Hp → Prop} {Y : Nat → Hp → V → Hp → Prop} (w : Walk J n G Y) (xs : List α) (emb : α → V) (hn : n = xs.length)
    (hY : ∀ i H x H', Y i H x H' → H' = H ∧ ∃ a, xs[i]? = some a ∧ x = emb a)
    {g : TG} {tt : TT} {te : TE} {vs : List Nat} {σ : L2.St} {H1 : Hp} {D : Addr} {Qd : Hp → Prop} (p : α → Bool) (f : α → V) (hD : H1 D = none) (hz : n < sizeLine) (hG : ∀ H, Same H1 H → G H)
    (hs : ∀ a, a ∈ xs → ∀ (H : Hp) (R : VK) (S : Hp → Prop), Same H1 H → (p a = true → ∀ H', Same H H' → R (f a) H') → (p a = false → ∀ H', Same H H' → S H') →
      g (emb a) (wipe σ vs) H fun σ2 H2 => wipe σ2 vs = wipe σ vs ∧ tt σ2 H2 fun b H3 => if b = true then te σ2 H3 R else S H3)
    (hd : ∀ H, Same H1 H → H D = some (.lst ((xs.filter p).map f)) → Qd H) :
    ∃ W : Nat → Nat → Hp → Prop, (∃ m, W 0 m (upd H1 D (.lst []))) ∧ ∀ i m H, W i m H →
      (J.stop i H ∧ Qd H) ∨ (J.go i H ∧ ∃ Nx : Hp → Prop, (∀ H', Nx H' → ∃ m', m' < m ∧ W (i + 1) m' H') ∧
        ∀ x H', J.yld i H x H' → g x (wipe σ vs) H' fun σ2 H2 => wipe σ2 vs = wipe σ vs ∧ tt σ2 H2 fun b H3 =>
          if b = true then te σ2 H3 fun y H4 => ∃ acc, H4 D = some (.lst acc) ∧ acc.length < sizeLine ∧ Nx (upd H4 D (.lst (acc ++ [y]))) else Nx H3) := by
  refine lc_it w (fun i H => Same H1 H ∧ H D = some (.lst (((xs.take i).filter p).map f))) ⟨same_new hD, by rw [upd_same]; rfl⟩ (fun i H _ h => hG H h.1) ?_ ?_
  · rintro i x H H' hi ⟨s, hl⟩ y
    obtain ⟨rfl, a, ha, rfl⟩ := hY _ _ _ _ y
    have hlen : (((xs.take i).filter p).map f).length < sizeLine := by
      refine Nat.lt_of_le_of_lt ?_ hz
      rw [List.length_map]
      refine Nat.le_trans (List.length_filter_le _ _) ?_
      rw [List.length_take]
      omega
    refine hs a (List.mem_of_getElem? ha) H' _ _ s (fun hp H4 s4 => ?_) (fun hp H4 s4 => ?_)
    · refine ⟨_, s4 _ _ hl, hlen, same_upd (s.trans s4) hD, ?_⟩
      rw [upd_same, one_more ha, List.filter_append, List.map_append]
      simp [hp]
    · refine ⟨s.trans s4, ?_⟩
      rw [s4 _ _ hl, one_more ha, List.filter_append, List.map_append]
      simp [hp]
  · rintro H ⟨s, hl⟩
    refine hd H s ?_
    rw [hl, hn, List.take_length]
/-- over a text -/
theorem lc_txt {z : Str} {g : TG} {tt : TT} {te : TE} {vs : List Nat} {σ : L2.St} {H1 : Hp} {D : Addr} {Qd : Hp → Prop} (p : Nat → Bool) (f : Nat → V) (hD : H1 D = none) (hz : z.length < sizeLine)
    (hs : ∀ c, c ∈ z.cps.toList → ∀ (H : Hp) (R : VK) (S : Hp → Prop), Same H1 H → (p c = true → ∀ H', Same H H' → R (f c) H') → (p c = false → ∀ H', Same H H' → S H') →
      g (.str ⟨#[c]⟩) (wipe σ vs) H fun σ2 H2 => wipe σ2 vs = wipe σ vs ∧ tt σ2 H2 fun b H3 => if b = true then te σ2 H3 R else S H3)
    (hd : ∀ H, Same H1 H → H D = some (.lst ((z.cps.toList.filter p).map f)) → Qd H) :
    ∃ W : Nat → Nat → Hp → Prop, (∃ m, W 0 m (upd H1 D (.lst []))) ∧ ∀ i m H, W i m H →
      ((Its z).stop i H ∧ Qd H) ∨ ((Its z).go i H ∧ ∃ Nx : Hp → Prop, (∀ H', Nx H' → ∃ m', m' < m ∧ W (i + 1) m' H') ∧
        ∀ x H', (Its z).yld i H x H' → g x (wipe σ vs) H' fun σ2 H2 => wipe σ2 vs = wipe σ vs ∧ tt σ2 H2 fun b H3 =>
          if b = true then te σ2 H3 fun y H4 => ∃ acc, H4 D = some (.lst acc) ∧ acc.length < sizeLine ∧ Nx (upd H4 D (.lst (acc ++ [y]))) else Nx H3) :=
  lc_map (walk_str (z := z)) z.cps.toList (fun c => .str ⟨#[c]⟩) (by simp) (fun i H x H' ⟨e, c, h1, h2⟩ => ⟨e, c, by simpa using h1, h2⟩) p f hD hz (fun _ _ => trivial) hs hd
/-- over a list -/
theorem lc_lst {α : Type} {K : PySem.W.Frag} {a : Addr} (xs : List α) (emb : α → V) {g : TG} {tt : TT} {te : TE} {vs : List Nat} {σ : L2.St} {H1 : Hp} {D : Addr} {Qd : Hp → Prop} (p : α → Bool) (f : α → V) (hD : H1 D = none) (hz : xs.length < sizeLine)
    (ha : SqL K H1 a (xs.map emb))
    (hs : ∀ c, c ∈ xs → ∀ (H : Hp) (R : VK) (S : Hp → Prop), Same H1 H → (p c = true → ∀ H', Same H H' → R (f c) H') → (p c = false → ∀ H', Same H H' → S H') →
      g (emb c) (wipe σ vs) H fun σ2 H2 => wipe σ2 vs = wipe σ vs ∧ tt σ2 H2 fun b H3 => if b = true then te σ2 H3 R else S H3)
    (hd : ∀ H, Same H1 H → H D = some (.lst ((xs.filter p).map f)) → Qd H) :
    ∃ W : Nat → Nat → Hp → Prop, (∃ m, W 0 m (upd H1 D (.lst []))) ∧ ∀ i m H, W i m H →
      ((Itl K a).stop i H ∧ Qd H) ∨ ((Itl K a).go i H ∧ ∃ Nx : Hp → Prop, (∀ H', Nx H' → ∃ m', m' < m ∧ W (i + 1) m' H') ∧
        ∀ x H', (Itl K a).yld i H x H' → g x (wipe σ vs) H' fun σ2 H2 => wipe σ2 vs = wipe σ vs ∧ tt σ2 H2 fun b H3 =>
          if b = true then te σ2 H3 fun y H4 => ∃ acc, H4 D = some (.lst acc) ∧ acc.length < sizeLine ∧ Nx (upd H4 D (.lst (acc ++ [y]))) else Nx H3) :=
  lc_map (walk_list (K := K) (a := a) (xs := xs.map emb)) xs emb (by simp)
    (fun i H x H' ⟨e, h⟩ => ⟨e, by
      rw [List.getElem?_map] at h
      cases q : xs[i]? with
      | none =>
        rw [q] at h
        cases h
      | some c =>
        rw [q] at h
        exact ⟨c, rfl, (Option.some.inj h).symm⟩⟩) p f hD (by simpa using hz) (fun H s => s.seq ha) hs hd
end Pk

namespace Pk
open PySem L2
def top (i : Nat) : Stmt := PySem.Challenge.pw_parcelindex_k02_names_words_and_paths.main.body.getD i (.Pass ⟨0, 0, 0, 0⟩)
abbrev s_consists_of : Stmt := top 3
abbrev N_consists_of : List Str := ["text", "signs", "sign"]
abbrev P_consists_of : List Str := ["text", "signs"]
theorem S_consists_of : FnScope N_consists_of P_consists_of (defScope s_consists_of) := ⟨rfl, rfl, rfl, by decide +kernel, rfl, by decide +kernel, by decide +kernel⟩
abbrev s_is_string_of : Stmt := top 4
abbrev N_is_string_of : List Str := ["thing", "signs", "most"]
abbrev P_is_string_of : List Str := ["thing", "signs", "most"]
theorem S_is_string_of : FnScope N_is_string_of P_is_string_of (defScope s_is_string_of) := ⟨rfl, rfl, rfl, by decide +kernel, rfl, by decide +kernel, by decide +kernel⟩
abbrev s_is_name : Stmt := top 6
abbrev N_is_name : List Str := ["thing"]
abbrev P_is_name : List Str := ["thing"]
theorem S_is_name : FnScope N_is_name P_is_name (defScope s_is_name) := ⟨rfl, rfl, rfl, by decide +kernel, rfl, by decide +kernel, by decide +kernel⟩
abbrev s_is_word : Stmt := top 7
abbrev N_is_word : List Str := ["thing"]
abbrev P_is_word : List Str := ["thing"]
theorem S_is_word : FnScope N_is_word P_is_word (defScope s_is_word) := ⟨rfl, rfl, rfl, by decide +kernel, rfl, by decide +kernel, by decide +kernel⟩
abbrev s_is_path : Stmt := top 8
abbrev N_is_path : List Str := ["thing"]
abbrev P_is_path : List Str := ["thing"]
theorem S_is_path : FnScope N_is_path P_is_path (defScope s_is_path) := ⟨rfl, rfl, rfl, by decide +kernel, rfl, by decide +kernel, by decide +kernel⟩
abbrev s_begin : Stmt := top 10
abbrev N_begin : List Str := ["_law_script"]
abbrev P_begin : List Str := ["_law_script"]
theorem S_begin : FnScope N_begin P_begin (defScope s_begin) := ⟨rfl, rfl, rfl, by decide +kernel, rfl, by decide +kernel, by decide +kernel⟩
abbrev s_mixed : Stmt := top 11
abbrev N_mixed : List Str := ["_law_cell", "_law_k", "_law_mixed_here"]
abbrev P_mixed : List Str := ["_law_cell", "_law_k"]
theorem S_mixed : FnScope N_mixed P_mixed (defScope s_mixed) := ⟨rfl, rfl, rfl, by decide +kernel, rfl, by decide +kernel, by decide +kernel⟩
abbrev s_next : Stmt := top 12
abbrev N_next : List Str := ["_law_draw", "_law_bound", "_law_found", "_law_every", "_law_cell"]
abbrev P_next : List Str := ["_law_draw", "_law_bound"]
theorem S_next : FnScope N_next P_next (defScope s_next) := ⟨rfl, rfl, rfl, by decide +kernel, rfl, by decide +kernel, by decide +kernel⟩
abbrev s_string : Stmt := top 13
abbrev N_string : List Str := ["_law_draw", "_law_kinds", "_law_signs", "_law_size", "_law_found", "_law_at", "_law_odd", "_law_k"]
abbrev P_string : List Str := ["_law_draw"]
theorem S_string : FnScope N_string P_string (defScope s_string) := ⟨rfl, rfl, rfl, by decide +kernel, rfl, by decide +kernel, by decide +kernel⟩
abbrev s_consists : Stmt := top 14
abbrev N_consists : List Str := ["_law_what", "_law_signs", "_law_most", "_law_sign"]
abbrev P_consists : List Str := ["_law_what", "_law_signs", "_law_most"]
theorem S_consists : FnScope N_consists P_consists (defScope s_consists) := ⟨rfl, rfl, rfl, by decide +kernel, rfl, by decide +kernel, by decide +kernel⟩
abbrev s_right : Stmt := top 15
abbrev N_right : List Str := ["_law_what", "_law_small", "_law_due", "_law_told", "_law_named"]
abbrev P_right : List Str := ["_law_what"]
theorem S_right : FnScope N_right P_right (defScope s_right) := ⟨rfl, rfl, rfl, by decide +kernel, rfl, by decide +kernel, by decide +kernel⟩
abbrev s_law : Stmt := top 16
abbrev N_law : List Str := ["_law_script", "_law_draw", "_law_turn", "_law_what", "_law_odd"]
abbrev P_law : List Str := ["_law_script"]
theorem S_law : FnScope N_law P_law (defScope s_law) := ⟨rfl, rfl, rfl, by decide +kernel, rfl, by decide +kernel, by decide +kernel⟩
structure Ad where
  a_consists_of : Addr
  d_consists_of : FuncData
  a_is_string_of : Addr
  d_is_string_of : FuncData
  a_is_name : Addr
  d_is_name : FuncData
  a_is_word : Addr
  d_is_word : FuncData
  a_is_path : Addr
  d_is_path : FuncData
  a_begin : Addr
  d_begin : FuncData
  a_mixed : Addr
  d_mixed : FuncData
  a_next : Addr
  d_next : FuncData
  a_string : Addr
  d_string : FuncData
  a_consists : Addr
  d_consists : FuncData
  a_right : Addr
  d_right : FuncData
  a_law : Addr
  d_law : FuncData
  t_LETTERS : Tok
  t_DIGITS : Tok
structure Tex (K : PySem.W.Frag) (mg : Str → Option Value) (D : Ad) : Prop where
  consists_of_F : Fun K "consists_of" "consists_of" s_consists_of D.a_consists_of D.d_consists_of
  consists_of_g : mg "consists_of" = some (.ref D.a_consists_of)
  consists_of_b : Binds K D.d_consists_of P_consists_of []
  is_string_of_F : Fun K "is_string_of" "is_string_of" s_is_string_of D.a_is_string_of D.d_is_string_of
  is_string_of_g : mg "is_string_of" = some (.ref D.a_is_string_of)
  is_string_of_b : Binds K D.d_is_string_of P_is_string_of []
  is_name_F : Fun K "is_name" "is_name" s_is_name D.a_is_name D.d_is_name
  is_name_g : mg "is_name" = some (.ref D.a_is_name)
  is_name_b : Binds K D.d_is_name P_is_name []
  is_name_kb : KB K D.d_is_name P_is_name ["thing"]
  is_word_F : Fun K "is_word" "is_word" s_is_word D.a_is_word D.d_is_word
  is_word_g : mg "is_word" = some (.ref D.a_is_word)
  is_word_b : Binds K D.d_is_word P_is_word []
  is_word_kb : KB K D.d_is_word P_is_word ["thing"]
  is_path_F : Fun K "is_path" "is_path" s_is_path D.a_is_path D.d_is_path
  is_path_g : mg "is_path" = some (.ref D.a_is_path)
  is_path_b : Binds K D.d_is_path P_is_path []
  is_path_kb : KB K D.d_is_path P_is_path ["thing"]
  begin_F : Fun K "_law_begin" "_law_begin" s_begin D.a_begin D.d_begin
  begin_g : mg "_law_begin" = some (.ref D.a_begin)
  begin_b : Binds K D.d_begin P_begin []
  mixed_F : Fun K "_law_mixed" "_law_mixed" s_mixed D.a_mixed D.d_mixed
  mixed_g : mg "_law_mixed" = some (.ref D.a_mixed)
  mixed_b : Binds K D.d_mixed P_mixed []
  next_F : Fun K "_law_next" "_law_next" s_next D.a_next D.d_next
  next_g : mg "_law_next" = some (.ref D.a_next)
  next_b : Binds K D.d_next P_next []
  string_F : Fun K "_law_string" "_law_string" s_string D.a_string D.d_string
  string_g : mg "_law_string" = some (.ref D.a_string)
  string_b : Binds K D.d_string P_string []
  consists_F : Fun K "_law_consists" "_law_consists" s_consists D.a_consists D.d_consists
  consists_g : mg "_law_consists" = some (.ref D.a_consists)
  consists_b : Binds K D.d_consists P_consists []
  right_F : Fun K "_law_right" "_law_right" s_right D.a_right D.d_right
  right_g : mg "_law_right" = some (.ref D.a_right)
  right_b : Binds K D.d_right P_right []
  law_F : Fun K "law" "law" s_law D.a_law D.d_law
  law_g : mg "law" = some (.ref D.a_law)
  law_b : Binds K D.d_law P_law []
  c_LETTERS : mg "LETTERS" = some (.str "abcdefghijklmnopqrstuvwxyz" D.t_LETTERS)
  c_DIGITS : mg "DIGITS" = some (.str "0123456789" D.t_DIGITS)
  b_all : mg "all" = none
  b_isinstance : mg "isinstance" = none
  b_len : mg "len" = none
  b_min : mg "min" = none
  b_range : mg "range" = none
  b_repr : mg "repr" = none
  b_str : mg "str" = none
/-! ## The draws -/
section
variable {P : Program} {w : World} {K : PySem.W.Frag} {mg : Str → Option Value} {base : Heap} {D : Ad}
def drK (c : Addr) (a l u : Int) : List (Key × V) := [(.inr "cells", .ref c), (.inr "at", .int a), (.inr "left", .int l), (.inr "used", .int u)]
theorem ne_ca : ¬ (("cells" : Str) = "at") := by decide +kernel
theorem ne_cl : ¬ (("cells" : Str) = "left") := by decide +kernel
theorem ne_cu : ¬ (("cells" : Str) = "used") := by decide +kernel
theorem ne_al : ¬ (("at" : Str) = "left") := by decide +kernel
theorem ne_au : ¬ (("at" : Str) = "used") := by decide +kernel
theorem ne_lu : ¬ (("left" : Str) = "used") := by decide +kernel
theorem ne_la : ¬ (("left" : Str) = "at") := by decide +kernel
theorem ne_ua : ¬ (("used" : Str) = "at") := by decide +kernel
theorem ne_ul : ¬ (("used" : Str) = "left") := by decide +kernel
theorem dr_cells (c : Addr) (a l u : Int) : valV (drK c a l u) (.inr "cells" : Key) = some (.ref c) := by simp [valV, drK]
theorem dr_at (c : Addr) (a l u : Int) : valV (drK c a l u) (.inr "at" : Key) = some (.int a) := by simp [valV, drK, ne_ca]
theorem dr_left (c : Addr) (a l u : Int) : valV (drK c a l u) (.inr "left" : Key) = some (.int l) := by simp [valV, drK, ne_cl, ne_al]
theorem dr_used (c : Addr) (a l u : Int) : valV (drK c a l u) (.inr "used" : Key) = some (.int u) := by simp [valV, drK, ne_cu, ne_au, ne_lu]
theorem dr_pat (c : Addr) (a l u x : Int) : putK (drK c a l u) (.inr "at" : Key) (.int x) = drK c x l u := by simp [putK, drK, ne_ca, ne_la, ne_ua]
theorem dr_pleft (c : Addr) (a l u x : Int) : putK (drK c a l u) (.inr "left" : Key) (.int x) = drK c a x u := by simp [putK, drK, ne_cl, ne_al, ne_ul]
theorem dr_pused (c : Addr) (a l u x : Int) : putK (drK c a l u) (.inr "used" : Key) (.int x) = drK c a l x := by simp [putK, drK, ne_cu, ne_au, ne_lu]

/-- a draw stands at d, at most n steps were made -/
def Dr (H : Hp) (d : Addr) (n : Nat) : Prop := ∃ (c : Addr) (cs : List Int) (a l u : Int), H d = some (.dK (drK c a l u)) ∧ H c = some (.lst (cs.map V.int)) ∧
  cs ≠ [] ∧ cs.length ≤ 64 ∧ 0 ≤ a ∧ a ≤ n ∧ 0 ≤ l ∧ 0 ≤ u ∧ u ≤ n
/-- all stands but what is at d -/
def But (d : Addr) (H H' : Hp) : Prop := ∀ b o, H b = some o → b ≠ d → H' b = some o
theorem But.refl {d : Addr} {H : Hp} : But d H H := fun _ _ e _ => e
theorem But.trans {d : Addr} {H H1 H2 : Hp} (x : But d H H1) (y : But d H1 H2) : But d H H2 := fun b o e n => y b o (x b o e n) n
theorem But.upd {d : Addr} {H : Hp} {o : HO} : But d H (upd H d o) := fun b u e n => by rw [upd_ne n]; exact e
theorem But.new {d p : Addr} {H H1 : Hp} {o : HO} (x : But d H H1) (h : H1 p = none) : But d H (L2.upd H1 p o) := fun b u e n => by
  have e1 := x b u e n
  rw [upd_ne (ne_of_none e1 h)]
  exact e1
theorem But.free {d p : Addr} {H H' : Hp} (x : But d H H') (hd : d ≠ p) (h : H' p = none) : H p = none := by
  cases q : H p with
  | none => rfl
  | some o =>
    rw [x p o q (Ne.symm hd)] at h
    cases h
theorem But.of_same {d : Addr} {H H' : Hp} (x : Same H H') : But d H H' := fun b o e _ => x b o e
theorem Dr.some {H : Hp} {d : Addr} {n : Nat} (h : Dr H d n) : ∃ o, H d = some (.dK o) := let ⟨_, _, _, _, _, e, _⟩ := h; ⟨_, e⟩
theorem Dr.mono {H : Hp} {d : Addr} {n m : Nat} (h : Dr H d n) (q : n ≤ m) : Dr H d m := by
  obtain ⟨c, cs, a, l, u, h1, h2, h3, h4, h5, h6, h7, h8, h9⟩ := h
  exact ⟨c, cs, a, l, u, h1, h2, h3, h4, h5, by omega, h7, h8, by omega⟩
theorem Dr.keep {H H' : Hp} {d : Addr} {n : Nat} (h : Dr H d n) (e : Same H H') : Dr H' d n := by
  obtain ⟨c, cs, a, l, u, h1, h2, r⟩ := h
  exact ⟨c, cs, a, l, u, e _ _ h1, e _ _ h2, r⟩
theorem Dr.new {H : Hp} {d p : Addr} {n : Nat} {o : HO} (h : Dr H d n) (q : H p = none) : Dr (upd H p o) d n :=
  h.keep fun b u e => by rw [upd_ne (ne_of_none e q)]; exact e
theorem Dr.ne_new {H : Hp} {d p : Addr} {n : Nat} (h : Dr H d n) (q : H p = none) : d ≠ p := let ⟨_, e⟩ := h.some; ne_of_none e q

def spMixed : Sp := fun vs H Q _ => ∃ c k : Int, vs = [.int c, .int k] ∧ 0 ≤ k ∧ k < 2 ^ 60 ∧ ∀ v, Q (.int v) H
theorem ok_mixed (T : Tex K mg D) : FnOk P w K mg base CX0 1 D.a_mixed D.d_mixed P_mixed spMixed := by
  refine T.mixed_F.ok S_mixed (fun vs H Q E h => ?_) (fun cdv A outer s H vs Q E hr h => ?_)
  · obtain ⟨c, k, rfl, _⟩ := h
    rfl
  · obtain ⟨c, k, rfl, h0, h1, q⟩ := h
    refine ⟨_, (pss_cons (ps_set (i := 2) S_mixed.nd rfl (Or.inl rfl) (pe_op op_mod (pe_op op_add (pe_op op_add (pe_op op_add (pe_op op_mod (pv 0) pe_int) (pe_op op_mul (pe_op op_mul pe_int (pv 1)) (pv 1))) (pe_op op_mul pe_int (pv 1))) pe_int) pe_int))
      (pss_cons (ps_set (i := 2) S_mixed.nd rfl (Or.inl rfl) (pe_op op_mod (pe_op op_mul (pe_op op_mod (pe_op op_mul (pv 2) (pv 2)) pe_int) (pv 2)) pe_int))
      (pss_one (ps_ret (pe_op op_fdiv (pe_op op_mod (pe_op op_mul (pv 2) (pe_op op_add pe_int (pe_op op_mul pe_int (pe_op op_mod (pv 1) pe_int)))) pe_int) pe_int))))), ?_⟩
    refine ⟨_, rfl, _, _, rfl, rfl, (posI rfl), ?_⟩
    refine ⟨_, rfl, _, _, rfl, rfl, .inl ⟨by decide, by decide⟩, ?_⟩
    refine ⟨_, rfl, _, _, rfl, rfl, .inr ⟨by omega, by omega⟩, _, _, rfl, rfl, ?_⟩
    refine ⟨_, rfl, _, _, rfl, rfl, .inl ⟨by decide, by decide⟩, _, _, rfl, rfl, _, _, rfl, rfl, _, _, rfl, rfl, (posI rfl), ?_⟩
    generalize hm : (c % 1000000007 + 7919 * k * k + 31 * k + 7) % 2147483647 = m
    have m0 : 0 ≤ m := by rw [← hm]; exact Int.emod_nonneg _ (by decide)
    have m1 : m < 2147483647 := by rw [← hm]; exact Int.emod_lt_of_pos _ (by decide)
    refine ⟨_, rfl, _, rfl, _, _, rfl, rfl, .inl ⟨by omega, by omega⟩, _, _, rfl, rfl, (posI rfl), ?_⟩
    refine ⟨_, rfl, _, _, rfl, rfl, .inr ⟨by omega, by omega⟩, _, _, rfl, rfl, (posI rfl), ?_⟩
    generalize hn : m * m % 2147483647 * m % 2147483629 = n
    have n0 : 0 ≤ n := by rw [← hn]; exact Int.emod_nonneg _ (by decide)
    have n1 : n < 2147483629 := by rw [← hn]; exact Int.emod_lt_of_pos _ (by decide)
    refine ⟨_, rfl, _, rfl, _, _, rfl, rfl, (posI rfl), _, _, rfl, rfl, .inl ⟨by decide, by decide⟩, _, _, rfl, rfl, _, _, rfl, rfl, .inl ⟨by omega, by omega⟩, ?_⟩
    refine ⟨_, _, rfl, rfl, (posI rfl), _, _, rfl, rfl, ⟨by decide, by decide⟩, ?_⟩
    exact q _

def spNext : Sp := fun vs H Q _ => ∃ (d : Addr) (b : Int) (n : Nat), vs = [.ref d, .int b] ∧ Dr H d n ∧ n ≤ 10 ^ 12 ∧ 0 < b ∧ b < 2 ^ 30 ∧
  ∀ (v : Int) (H' : Hp), 0 ≤ v → v < b → Dr H' d (n + 1) → But d H H' → Q (.int v) H'
theorem ok_next (T : Tex K mg D) : FnOk P w K mg base CX0 2 D.a_next D.d_next P_next spNext := by
  have G_mixed : FnOk P w K mg base CX0 1 D.a_mixed D.d_mixed P_mixed spMixed := ok_mixed T
  refine T.next_F.ok S_next (fun vs H Q E h => ?_) (fun cdv A outer s H vs Q E hr h => ?_)
  · obtain ⟨d, b, n, rfl, _⟩ := h
    rfl
  · obtain ⟨d, b, n, rfl, ⟨c, cs, a, l, u, hd, hc, c0, c64, a0, an, l0, u0, un⟩, hn, b0, b1, q⟩ := h
    have hu := hu_of hr
    have ndc : d ≠ c := ne_of hd hc (by intro z; cases z)
    have sz : ∀ c' a' l' u', (drK c' a' l' u').length < sizeLine := fun _ _ _ _ => by show 4 < sizeLine; decide
    have cs0 : 0 < cs.length := List.length_pos_iff.mpr c0
    refine ⟨_, (pss_cons (ps_if (pt_cmpR op_gt (pe_dget hu (pv 0) pe_str (fun _ _ => rfl)) pe_int (nomark _)) (pss_cons (ps_set (i := 2) S_next.nd rfl (Or.inl rfl) (pe_op op_mod (pe_dget hu (pv 0) pe_str (fun _ _ => rfl)) (pv 1)))
      (pss_cons (ps_dput hu (pv 0) pe_str (pe_op op_fdiv (pe_dget hu (pv 0) pe_str (fun _ _ => rfl)) (pv 1)) rfl)
      (pss_one (ps_ret (pv 2))))) pss_nil)
      (pss_cons (ps_set (i := 3) S_next.nd rfl (Or.inl rfl) (pe_dget hu (pv 0) pe_str (fun _ _ => rfl)))
      (pss_cons (ps_set (i := 4) S_next.nd rfl (Or.inl rfl) (pe_ix ix_list (pv 3) (pe_op op_mod (pe_dget hu (pv 0) pe_str (fun _ _ => rfl)) (pe_callB call_len_seq (by rfl) T.b_len (by decide +kernel) (pa_cons (pv 3) pa_nil))) (fun _ _ => rfl)))
      (pss_cons (ps_dput hu (pv 0) pe_str (pe_op op_add (pe_dget hu (pv 0) pe_str (fun _ _ => rfl)) pe_int) rfl)
      (pss_cons (ps_if (PW.pt (pw_and (pt_cmpR op_ge (pv 4) (pe_op op_pow pe_int pe_int) (nomark _)) (pw_and1 (pt_cmpR op_le (pe_dget hu (pv 0) pe_str (fun _ _ => rfl)) (pe_callB call_len_seq (by rfl) T.b_len (by decide +kernel) (pa_cons (pv 3) pa_nil)) (nomark _))))) (pss_cons (ps_dput hu (pv 0) pe_str (pe_op op_fdiv (pv 4) (pv 1)) rfl)
      (pss_one (ps_ret (pe_op op_mod (pv 4) (pv 1))))) pss_nil)
      (pss_cons (ps_dput hu (pv 0) pe_str (pe_op op_add (pe_dget hu (pv 0) pe_str (fun _ _ => rfl)) pe_int) rfl)
      (pss_one (ps_ret (pe_op op_mod (pe_call G_mixed (hr.mono (by decide)) (by rfl) T.mixed_g T.mixed_F.kp T.mixed_b .nil pass0 (pa_cons (pe_call G_mixed (hr.mono (by decide)) (by rfl) T.mixed_g T.mixed_F.kp T.mixed_b .nil pass0 (pa_cons (pv 4) (pa_cons (pe_dget hu (pv 0) pe_str (fun _ _ => rfl)) pa_nil))) (pa_cons (pe_dget hu (pv 0) pe_str (fun _ _ => rfl)) pa_nil))) (pv 1)))))))))), ?_⟩
    refine ⟨_, rfl, d, _, rfl, (by have g := DGet.k (k := .inr "left") hd; rw [dr_left] at g; exact g), _, _, rfl, rfl, _, rfl, ?_⟩
    refine ite2 (fun hl => ?_) (fun hl => ?_)
    · refine ⟨_, rfl, d, _, rfl, (by have g := DGet.k (k := .inr "left") hd; rw [dr_left] at g; exact g), _, rfl, _, _, rfl, rfl, b0, ?_⟩
      refine ⟨_, rfl, d, _, rfl, (by have g := DGet.k (k := .inr "left") hd; rw [dr_left] at g; exact g), _, rfl, _, _, rfl, rfl, ⟨b0, b1⟩, _, rfl, d, _, rfl, DPut.k (k := .inr "left") hd (sz _ _ _ _), ?_⟩
      refine ⟨_, rfl, ?_⟩
      refine q _ _ (Int.emod_nonneg _ (by omega)) (Int.emod_lt_of_pos _ b0) ⟨c, cs, a, l / b, u, ?_, ?_, c0, c64, a0, by omega, Int.ediv_nonneg l0 (by omega), u0, by omega⟩ But.upd
      · rw [upd_same, dr_pleft]
      · rw [upd_ne ndc.symm]; exact hc
    · refine ⟨_, rfl, d, _, rfl, (by have g := DGet.k (k := .inr "cells") hd; rw [dr_cells] at g; exact g), ?_⟩
      refine ⟨_, rfl, _, rfl, d, _, rfl, (by have g := DGet.k (k := .inr "at") hd; rw [dr_at] at g; exact g), _, rfl, c, _, rfl, .inl (SqL.of hc), _, _, rfl, rfl, (by rw [List.length_map]; show (0 : Int) < (cs.length : Int); omega), ?_⟩
      have hix : 0 ≤ a % ((cs.map V.int).length : Int) ∧ a % ((cs.map V.int).length : Int) < ((cs.map V.int).length : Int) := by
        have e : ((cs.map V.int).length : Int) = (cs.length : Int) := by rw [List.length_map]
        rw [e]
        exact ⟨Int.emod_nonneg _ (by omega), Int.emod_lt_of_pos _ (by omega)⟩
      obtain ⟨x, hx⟩ : ∃ x, (cs.map V.int)[(a % ((cs.map V.int).length : Int)).toNat]? = some (V.int x) := by
        have hlt : (a % ((cs.map V.int).length : Int)).toNat < cs.length := by
          have e : ((cs.map V.int).length : Int) = (cs.length : Int) := by rw [List.length_map]
          omega
        exact ⟨cs[(a % ((cs.map V.int).length : Int)).toNat], by rw [List.getElem?_map, List.getElem?_eq_getElem hlt]; rfl⟩
      refine ⟨c, _, _, _, rfl, rfl, SqL.of hc, (by
        have e : a % ((cs.map V.int).length : Int) = ((a % ((cs.map V.int).length : Int)).toNat : Int) := (Int.toNat_of_nonneg hix.1).symm
        rw [e]
        exact atI_nat hx), ?_⟩
      -- at += 1
      refine ⟨_, rfl, d, _, rfl, (by have g := DGet.k (k := .inr "at") hd; rw [dr_at] at g; exact g), _, _, rfl, rfl, _, rfl, d, _, rfl, DPut.k (k := .inr "at") hd (sz _ _ _ _), ?_⟩
      rw [dr_pat]
      have hd1 : (upd H d (.dK (drK c (a + 1) l u))) d = some (.dK (drK c (a + 1) l u)) := upd_same
      have hc1 : (upd H d (.dK (drK c (a + 1) l u))) c = some (.lst (cs.map V.int)) := by rw [upd_ne ndc.symm]; exact hc
      have bu1 : But d H (upd H d (.dK (drK c (a + 1) l u))) := But.upd
      revert hd1 hc1 bu1
      generalize upd H d (.dK (drK c (a + 1) l u)) = H1
      intro hd1 hc1 bu1
      refine ⟨_, rfl, _, _, rfl, rfl, ⟨by decide, by decide, by decide⟩, _, _, rfl, rfl, _, rfl, ?_⟩
      refine ite2 (fun h18 => ?_) (fun h18 => ?_)
      · refine ⟨_, rfl, d, _, rfl, (by have g := DGet.k (k := .inr "at") hd1; rw [dr_at] at g; exact g), _, rfl, c, _, rfl, .inl (SqL.of hc1), _, _, rfl, rfl, _, rfl, ?_⟩
        refine ite2 (fun hat => ?_) (fun hat => ?_)
        · have x0 : 0 ≤ x := by
            have h2 := of_decide_eq_true h18
            have h3 : (0 : Int) ≤ 10 ^ (18 : Int).toNat := by decide
            omega
          refine ⟨_, rfl, _, rfl, _, _, rfl, rfl, ⟨b0, b1⟩, _, rfl, d, _, rfl, DPut.k (k := .inr "left") hd1 (sz _ _ _ _), ?_⟩
          refine ⟨_, rfl, _, rfl, _, _, rfl, rfl, b0, ?_⟩
          refine q _ _ (Int.emod_nonneg _ (by omega)) (Int.emod_lt_of_pos _ b0) ⟨c, cs, a + 1, x / b, u, ?_, ?_, c0, c64, by omega, by omega, Int.ediv_nonneg x0 (by omega), u0, by omega⟩ (bu1.trans But.upd)
          · rw [upd_same, dr_pleft]
          · rw [upd_ne ndc.symm]; exact hc1
        ·
          refine ⟨_, rfl, d, _, rfl, (by have g := DGet.k (k := .inr "used") hd1; rw [dr_used] at g; exact g), _, _, rfl, rfl, _, rfl, d, _, rfl, DPut.k (k := .inr "used") hd1 (sz _ _ _ _), ?_⟩
          rw [dr_pused]
          have hd2 : (upd H1 d (.dK (drK c (a + 1) l (u + 1)))) d = some (.dK (drK c (a + 1) l (u + 1))) := upd_same
          have hc2 : (upd H1 d (.dK (drK c (a + 1) l (u + 1)))) c = some (.lst (cs.map V.int)) := by rw [upd_ne ndc.symm]; exact hc1
          refine ⟨_, rfl, _, rfl, d, _, rfl, (by have g := DGet.k (k := .inr "at") hd2; rw [dr_at] at g; exact g), x, a + 1, rfl, by omega, by omega, fun v1 => ?_⟩
          refine ⟨_, rfl, d, _, rfl, (by have g := DGet.k (k := .inr "used") hd2; rw [dr_used] at g; exact g), v1, u + 1, rfl, by omega, by omega, fun v2 => ?_⟩
          refine ⟨_, rfl, _, _, rfl, rfl, b0, ?_⟩
          exact q _ _ (Int.emod_nonneg _ (by omega)) (Int.emod_lt_of_pos _ b0) ⟨c, cs, a + 1, l, u + 1, hd2, hc2, c0, c64, by omega, by omega, l0, by omega, by omega⟩ (bu1.trans But.upd)
      ·
        refine ⟨_, rfl, d, _, rfl, (by have g := DGet.k (k := .inr "used") hd1; rw [dr_used] at g; exact g), _, _, rfl, rfl, _, rfl, d, _, rfl, DPut.k (k := .inr "used") hd1 (sz _ _ _ _), ?_⟩
        rw [dr_pused]
        have hd2 : (upd H1 d (.dK (drK c (a + 1) l (u + 1)))) d = some (.dK (drK c (a + 1) l (u + 1))) := upd_same
        have hc2 : (upd H1 d (.dK (drK c (a + 1) l (u + 1)))) c = some (.lst (cs.map V.int)) := by rw [upd_ne ndc.symm]; exact hc1
        refine ⟨_, rfl, _, rfl, d, _, rfl, (by have g := DGet.k (k := .inr "at") hd2; rw [dr_at] at g; exact g), x, a + 1, rfl, by omega, by omega, fun v1 => ?_⟩
        refine ⟨_, rfl, d, _, rfl, (by have g := DGet.k (k := .inr "used") hd2; rw [dr_used] at g; exact g), v1, u + 1, rfl, by omega, by omega, fun v2 => ?_⟩
        refine ⟨_, rfl, _, _, rfl, rfl, b0, ?_⟩
        exact q _ _ (Int.emod_nonneg _ (by omega)) (Int.emod_lt_of_pos _ b0) ⟨c, cs, a + 1, l, u + 1, hd2, hc2, c0, c64, by omega, by omega, l0, by omega, by omega⟩ (bu1.trans But.upd)
end

/-! ## Names, words, paths -/
section
variable {P : Program} {w : World} {K : PySem.W.Frag} {mg : Str → Option Value} {base : Heap} {D : Ad}
theorem szl {n : Nat} (h : n ≤ 1000) : n ≤ sizeLine := Nat.le_trans h (by decide)
theorem szt {n : Nat} (h : n ≤ 1000) : n < sizeLine := Nat.lt_of_le_of_lt h (by decide)
def inS (sg : Str) (c : Nat) : Bool := decide (c ∈ sg.cps.toList)
def Asc (t : Str) : Prop := ∀ c ∈ t.cps.toList, c < 128
/-- a value that the law asks about: a text, not too long, or something that is no text -/
def Th (K : PySem.W.Frag) (H : Hp) (x : V) : Prop := (∃ t : Str, x = .str t ∧ t.length ≤ 200 ∧ Asc t) ∨ ((∀ t : Str, x ≠ .str t) ∧ ∃ ty, TyX K H x (.type ty) ∧ kitB ty "str" = some false)
def good (x : V) (sg : Str) (m : Int) : Bool := match x with
  | .str t => decide (1 ≤ (t.length : Int)) && (decide ((t.length : Int) ≤ m) && t.cps.toList.all (inS sg))
  | _ => false
theorem good_no {x : V} (sg : Str) (m : Int) (h : ∀ t : Str, x ≠ .str t) : good x sg m = false := by
  cases x with
  | str t => exact absurd rfl (h t)
  | _ => rfl
theorem Th.keep {K : PySem.W.Frag} {H H' : Hp} {x : V} (h : Th K H x) (e : Same H H') : Th K H' x := by
  rcases h with h | ⟨h, ty, t, k⟩
  · exact .inl h
  · refine .inr ⟨h, ty, ?_, k⟩
    cases t with
    | base b =>
      cases b with
      | non => exact .base .non
      | bl y => exact .base (.bl y)
      | int i => exact .base (.int i)
      | str y => exact .base (.str y)
      | flt y => exact .base (.flt y)
      | lst q => exact .base (.lst (e _ _ q))
      | frz q => exact .base (.frz (e _ _ q))
      | tup q => exact .base (.tup (e _ _ q))
      | dK q => exact .base (.dK (e _ _ q))
      | dT q => exact .base (.dT (e _ _ q))
    | byt b => exact .byt b
    | set q => exact .set (e _ _ q)
    | kList q c => exact .kList q c
    | kTuple q c => exact .kTuple q c
    | kDict q c => exact .kDict q c
    | fTuple q => exact .fTuple (e _ _ q)
    | fDict q => exact .fDict (e _ _ q)

theorem filt1 {α : Type} {xs : List α} : xs.filter (fun _ => true) = xs := List.filter_eq_self.mpr (by simp)
def spConsistsOf : Sp := fun vs H Q _ => ∃ t sg : Str, vs = [.str t, .str sg] ∧ t.length ≤ 200 ∧ ∀ H', Same H H' → Q (.bl (t.cps.toList.all (inS sg))) H'
theorem ok_consists_of (T : Tex K mg D) : FnOk P w K mg base CX0 1 D.a_consists_of D.d_consists_of P_consists_of spConsistsOf := by
  refine T.consists_of_F.ok S_consists_of (fun vs H Q E h => ?_) (fun cdv A outer s H vs Q E hr h => ?_)
  · obtain ⟨t, sg, rfl, _⟩ := h
    rfl
  · obtain ⟨t, sg, rfl, hl, q⟩ := h
    refine ⟨_, (pss_one (ps_ret (pe_callB (cr_all rfl) (by rfl) T.b_all (by decide +kernel) (pa_cons (pe_lc (own := [(("sign" : Str), 2)]) (g := gName 2) (tt := tYes) rfl S_consists_of.nd (pi_str (pv 0)) (blkOk_by (N := N_consists_of) (sc := defScope s_consists_of) (by decide +kernel)) (fun _ _ _ _ _ => pg_name (i := 2) S_consists_of.nd rfl (Or.inl rfl)) (fun _ _ _ _ _ => pts_nil) (fun _ _ _ _ _ => (pe_cmpR op_in_sign (pv 2) (pv 1) rfl))) pa_nil)))), ?_⟩
    refine ⟨_, rfl, t, rfl, fun D hD => lc_txt (fun _ => true) (fun c => .bl (inS sg c)) hD (szt (by omega)) (fun c hc H2 R S s2 h1 h2 => ?_) (fun H2 s2 h2 => ?_)⟩
    · exact ⟨rfl, ⟨_, rfl, _, rfl, c, sg, rfl, rfl, h1 rfl _ (Same.refl _)⟩⟩
    · refine ⟨D, t.cps.toList.map (inS sg), rfl, SqL.of (by rw [h2, filt1, List.map_map]; rfl), ?_⟩
      rw [List.all_map]
      exact q _ s2

def spStr3 (K : PySem.W.Frag) : Sp := fun vs H Q _ => ∃ (x : V) (sg : Str) (m : Int), vs = [x, .str sg, .int m] ∧ Th K H x ∧ ∀ H', Same H H' → Q (.bl (good x sg m)) H'
theorem ok_is_string_of (T : Tex K mg D) : FnOk P w K mg base CX0 2 D.a_is_string_of D.d_is_string_of P_is_string_of (spStr3 K) := by
  have G_consists_of : FnOk P w K mg base CX0 1 D.a_consists_of D.d_consists_of P_consists_of spConsistsOf := ok_consists_of T
  refine T.is_string_of_F.ok S_is_string_of (fun vs H Q E h => ?_) (fun cdv A outer s H vs Q E hr h => ?_)
  · obtain ⟨x, sg, m, rfl, _⟩ := h
    rfl
  · obtain ⟨x, sg, m, rfl, hx, q⟩ := h
    refine ⟨_, (pss_one (ps_ret (pe_and (pe_callB call_isi (by rfl) T.b_isinstance (by decide +kernel) (pa_cons (pv 0) (pa_cons (pe_bltn (v := .ty "str") (u := .type "str") (by rfl) T.b_str (by decide +kernel) rfl) pa_nil))) (pe_and (pe_chain op_le op_le pe_int (pe_callB call_len_str (by rfl) T.b_len (by decide +kernel) (pa_cons (pv 0) pa_nil)) (pv 2)) (pe_one (pe_call G_consists_of (hr.mono (by decide)) (by rfl) T.consists_of_g T.consists_of_F.kp T.consists_of_b .nil pass0 (pa_cons (pv 0) (pa_cons (pv 1) pa_nil)))))))), ?_⟩
    rcases hx with ⟨t, rfl, hl, _⟩ | ⟨hn, ty, hty, hk⟩
    · refine ⟨_, rfl, .str t, .ty "str", .type "str", .type "str", true, rfl, .ty _, .base (.str t), kit_ty (by decide +kernel), true, rfl, iteT ?_⟩
      refine ⟨_, rfl, t, rfl, szl (by omega), _, _, rfl, rfl, _, rfl, ?_⟩
      have eg : good (.str t) sg m = (decide (1 ≤ (t.length : Int)) && (decide ((t.length : Int) ≤ m) && t.cps.toList.all (inS sg))) := rfl
      rw [eg] at q
      refine ite2 (fun h1 => ?_) (fun h1 => ?_)
      · refine ⟨_, rfl, _, _, rfl, rfl, _, rfl, ite2 (fun h2 => ?_) (fun h2 => ?_)⟩
        · refine ⟨_, rfl, _, rfl, t, sg, rfl, hl, fun H' s' => ?_⟩
          have q2 := q H' s'
          rw [h1, h2] at q2
          exact q2
        · have q2 := q H (Same.refl H)
          rw [h1, Bool.eq_false_iff.mpr h2] at q2
          exact q2
      · refine ⟨_, rfl, iteF ?_⟩
        have q2 := q H (Same.refl H)
        rw [Bool.eq_false_iff.mpr h1] at q2
        exact q2
    · refine ⟨_, rfl, x, .ty "str", .type ty, .type "str", false, rfl, .ty _, hty, kit_ty hk, false, rfl, iteF ?_⟩
      rw [good_no sg m hn] at q
      exact q H (Same.refl H)

def letters : Str := "abcdefghijklmnopqrstuvwxyz"
def digits : Str := "0123456789"
def first (x : V) : Bool := match x with
  | .str t => match t.cps.toList with
    | c :: _ => inS letters c
    | [] => false
  | _ => false
def goodName (x : V) : Bool := good x (letters ++ digits ++ "-") 20 && first x
def goodWord (x : V) : Bool := good x letters 12
def goodPath (x : V) : Bool := good x (letters ++ digits ++ ".-/") 60
theorem good_text {x : V} {sg : Str} {m : Int} (h : good x sg m = true) : ∃ (t : Str) (c : Nat) (r : List Nat), x = .str t ∧ t.cps.toList = c :: r ∧ t.length = r.length + 1 := by
  cases x with
  | str t =>
    simp only [good, Bool.and_eq_true, decide_eq_true_eq] at h
    have hl : t.length = t.cps.toList.length := by simp [Str.length]
    cases e : t.cps.toList with
    | nil =>
      rw [e] at hl
      simp at hl
      omega
    | cons c r =>
      rw [e] at hl
      exact ⟨t, c, r, rfl, e, by simpa using hl⟩
  | _ => exact absurd h (by simp [good])
def spIs (K : PySem.W.Frag) (f : V → Bool) : Sp := fun vs H Q _ => ∃ x : V, vs = [x] ∧ Th K H x ∧ ∀ H', Same H H' → Q (.bl (f x)) H'
theorem len_sum {a b : Str} (h : a.length + b.length ≤ 1000) : a.length + b.length ≤ sizeLine := szl h
theorem ok_is_name (T : Tex K mg D) : FnOk P w K mg base CX0 3 D.a_is_name D.d_is_name P_is_name (spIs K goodName) := by
  have G_is_string_of : FnOk P w K mg base CX0 2 D.a_is_string_of D.d_is_string_of P_is_string_of (spStr3 K) := ok_is_string_of T
  refine T.is_name_F.ok S_is_name (fun vs H Q E h => ?_) (fun cdv A outer s H vs Q E hr h => ?_)
  · obtain ⟨x, rfl, _⟩ := h
    rfl
  · obtain ⟨x, rfl, hx, q⟩ := h
    refine ⟨_, (pss_one (ps_ret (pe_and (pe_call G_is_string_of (hr.mono (by decide)) (by rfl) T.is_string_of_g T.is_string_of_F.kp T.is_string_of_b .nil pass0 (pa_cons (pv 0) (pa_cons (pe_op op_add_str (pe_op op_add_str (pe_glob (v := .str "abcdefghijklmnopqrstuvwxyz") rfl T.c_LETTERS ⟨_, rfl⟩) (pe_glob (v := .str "0123456789") rfl T.c_DIGITS ⟨_, rfl⟩)) pe_str) (pa_cons pe_int pa_nil)))) (pe_one (pe_cmpR op_in_sign (pe_ix ix_str (pv 0) pe_int (fun _ _ => rfl)) (pe_glob (v := .str "abcdefghijklmnopqrstuvwxyz") rfl T.c_LETTERS ⟨_, rfl⟩) rfl))))), ?_⟩
    refine ⟨_, rfl, letters, digits, rfl, rfl, szl (by decide), _, _, rfl, rfl, szl (by decide), x, _, 20, rfl, hx, fun H' s' => ⟨_, rfl, ite2 (fun h1 => ?_) (fun h1 => ?_)⟩⟩
    · obtain ⟨t, c, r, rfl, ec, el⟩ := good_text h1
      have h100 : t.length ≤ 200 := by
        rcases hx with ⟨t', e, hl, _⟩ | ⟨hn, _⟩
        · cases e
          exact hl
        · exact absurd rfl (hn t)
      refine ⟨_, rfl, t, 0, c, rfl, rfl, szl (by omega), ?_, c, letters, rfl, rfl, ?_⟩
      · rw [ec]
        exact atI_nat (j := 0) rfl
      · have q2 := q H' s'
        unfold goodName at q2
        rw [h1] at q2
        simp only [first, ec, Bool.true_and] at q2
        exact q2
    · have q2 := q H' s'
      unfold goodName at q2
      rw [Bool.eq_false_iff.mpr h1] at q2
      exact q2
theorem ok_is_word (T : Tex K mg D) : FnOk P w K mg base CX0 3 D.a_is_word D.d_is_word P_is_word (spIs K goodWord) := by
  have G_is_string_of : FnOk P w K mg base CX0 2 D.a_is_string_of D.d_is_string_of P_is_string_of (spStr3 K) := ok_is_string_of T
  refine T.is_word_F.ok S_is_word (fun vs H Q E h => ?_) (fun cdv A outer s H vs Q E hr h => ?_)
  · obtain ⟨x, rfl, _⟩ := h
    rfl
  · obtain ⟨x, rfl, hx, q⟩ := h
    refine ⟨_, (pss_one (ps_ret (pe_call G_is_string_of (hr.mono (by decide)) (by rfl) T.is_string_of_g T.is_string_of_F.kp T.is_string_of_b .nil pass0 (pa_cons (pv 0) (pa_cons (pe_glob (v := .str "abcdefghijklmnopqrstuvwxyz") rfl T.c_LETTERS ⟨_, rfl⟩) (pa_cons pe_int pa_nil)))))), ?_⟩
    exact ⟨_, rfl, x, letters, 12, rfl, hx, q⟩
theorem ok_is_path (T : Tex K mg D) : FnOk P w K mg base CX0 3 D.a_is_path D.d_is_path P_is_path (spIs K goodPath) := by
  have G_is_string_of : FnOk P w K mg base CX0 2 D.a_is_string_of D.d_is_string_of P_is_string_of (spStr3 K) := ok_is_string_of T
  refine T.is_path_F.ok S_is_path (fun vs H Q E h => ?_) (fun cdv A outer s H vs Q E hr h => ?_)
  · obtain ⟨x, rfl, _⟩ := h
    rfl
  · obtain ⟨x, rfl, hx, q⟩ := h
    refine ⟨_, (pss_one (ps_ret (pe_call G_is_string_of (hr.mono (by decide)) (by rfl) T.is_string_of_g T.is_string_of_F.kp T.is_string_of_b .nil pass0 (pa_cons (pv 0) (pa_cons (pe_op op_add_str (pe_op op_add_str (pe_glob (v := .str "abcdefghijklmnopqrstuvwxyz") rfl T.c_LETTERS ⟨_, rfl⟩) (pe_glob (v := .str "0123456789") rfl T.c_DIGITS ⟨_, rfl⟩)) pe_str) (pa_cons pe_int pa_nil)))))), ?_⟩
    exact ⟨_, rfl, letters, digits, rfl, rfl, szl (by decide), _, _, rfl, rfl, szl (by decide), x, _, 60, rfl, hx, q⟩
end

/-! ## The law -/
section
variable {P : Program} {w : World} {K : PySem.W.Frag} {mg : Str → Option Value} {base : Heap} {D : Ad}
theorem Asc.append {a b : Str} (x : Asc a) (y : Asc b) : Asc (a ++ b) := fun c hc => by
  have e : (a ++ b).cps.toList = a.cps.toList ++ b.cps.toList := by rw [PySem.Str.cps_append]; simp
  rw [e] at hc
  rcases List.mem_append.mp hc with h | h
  · exact x c h
  · exact y c h
theorem Asc.cut {a : Str} (x : Asc a) (lo hi : Option Int) : Asc (cutS a lo hi) := fun c hc => by
  have h1 : c ∈ (a.cps.toList.drop (HT.sIx a.length 0 lo)).take (HT.sIx a.length a.length hi - HT.sIx a.length 0 lo) := by simpa [cutS] using hc
  exact x c (List.mem_of_mem_drop (List.mem_of_mem_take h1))
theorem Asc.one {c : Nat} (h : c < 128) : Asc ⟨#[c]⟩ := fun x hx => by
  have e : x = c := by simpa using hx
  rw [e]
  exact h
theorem Asc.empty : Asc Str.empty := fun x hx => by simp [Str.empty] at hx
theorem Asc.join {s : Str} (hs : Asc s) : ∀ {ys : List Str}, (∀ y ∈ ys, Asc y) → Asc (PySem.Str.join s ys)
  | [], _ => Asc.empty
  | [y], h => h y (by simp)
  | y :: z :: r, h => ((h y (by simp)).append hs).append (Asc.join hs fun u hu => h u (by simp at hu ⊢; exact .inr hu))
theorem len_app (a b : Str) : (a ++ b).length = a.length + b.length := PySem.strLen_append a b

theorem at_in {α : Type} {xs : List α} {v : Int} (h0 : 0 ≤ v) (h1 : v < (xs.length : Int)) : ∃ x, atI xs v = some x ∧ x ∈ xs := by
  obtain ⟨j, rfl⟩ := Int.eq_ofNat_of_zero_le h0
  have hj : j < xs.length := by omega
  exact ⟨xs[j], atI_nat (List.getElem?_eq_getElem hj), List.getElem_mem hj⟩

/-! ### begin -/
theorem merge_dr (c : Addr) (a l u : Int) : mergeK [] (drK c a l u) = drK c a l u := by simp [mergeK, putK, drK, ne_ca, ne_cl, ne_cu, ne_al, ne_au, ne_lu]
def spBegin (K : PySem.W.Frag) : Sp := fun vs H Q _ => ∃ (a : Addr) (ns : List Int), vs = [.ref a] ∧ Bare K H a (ns.map V.int) ∧ ns.length ≤ 63 ∧ ∀ d H', H d = none → Same H H' → Dr H' d 0 → Q (.ref d) H'
theorem ok_begin (T : Tex K mg D) : FnOk P w K mg base CX0 1 D.a_begin D.d_begin P_begin (spBegin K) := by
  refine T.begin_F.ok S_begin (fun vs H Q E h => ?_) (fun cdv A outer s H vs Q E hr h => ?_)
  · obtain ⟨a, ns, rfl, _⟩ := h
    rfl
  · obtain ⟨a, ns, rfl, hb, hl, q⟩ := h
    refine ⟨_, (pss_one (ps_ret (pe_disp (pps_cons pe_str (pe_op op_catS (pv 0) (pe_lst (pa_cons pe_int pa_nil))) (pps_cons pe_str pe_int (pps_cons pe_str pe_int (pps_cons pe_str pe_int pps_nil)))) (by rfl) (by rfl) (fun z => by cases z) (by decide)))), ?_⟩
    intro p hp
    have s1 : Same H (upd H p (.dK [])) := same_new hp
    refine ⟨_, rfl, (by show 1 ≤ sizeLine; decide), fun l hl1 => ⟨a, l, _, _, rfl, rfl, (hb.keep s1).keep (same_new hl1), upd_same, szl (by simp; omega), fun c hc => ?_⟩⟩
    have s2 := s1.trans (same_new (o := .lst [.int 0]) hl1)
    have s3 := s2.trans (same_new (o := .lst (ns.map V.int ++ [.int 0])) hc)
    have npl : p ≠ l := ne_of_none upd_same hl1
    have npc : p ≠ c := by
      have e : (upd (upd H p (.dK [])) l (.lst [.int 0])) p = some (.dK []) := by rw [upd_ne npl, upd_same]
      exact ne_of_none e hc
    refine ⟨by rw [upd_ne npc, upd_ne npl, upd_same], drK c 0 0 0, rfl, (by show 4 ≤ 15; decide), ?_⟩
    rw [merge_dr]
    refine q p _ hp (same_upd s3 hp) ⟨c, ns ++ [0], 0, 0, 0, upd_same, ?_, by simp, by simp; omega, by decide, by decide, by decide, by decide, by decide⟩
    rw [upd_ne npc.symm, upd_same]
    simp

/-! ### the drawn texts -/
def spString : Sp := fun vs H Q _ => ∃ (d : Addr) (n : Nat), vs = [.ref d] ∧ Dr H d n ∧ n ≤ 10 ^ 11 ∧
  ∀ (p : Addr) (x y z : Str) (H' : Hp), H p = none → H' p = some (.lst [.str x, .str y, .str z]) → x.length ≤ 200 → y.length ≤ 200 → z.length ≤ 200 → Asc x → Asc y → Asc z → Dr H' d (n + 100) → But d H H' → Q (.ref p) H'
theorem ok_string (T : Tex K mg D) : FnOk P w K mg base CX0 3 D.a_string D.d_string P_string spString := by
  have G_next : FnOk P w K mg base CX0 2 D.a_next D.d_next P_next spNext := ok_next T
  refine T.string_F.ok S_string (fun vs H Q E h => ?_) (fun cdv A outer s H vs Q E hr h => ?_)
  · obtain ⟨d, n, rfl, _⟩ := h
    rfl
  · obtain ⟨d, n, rfl, hd, hn, q⟩ := h
    refine ⟨_, (pss_cons (ps_set (i := 1) S_string.nd rfl (Or.inl rfl) (pe_lst (pa_cons pe_str (pa_cons pe_str (pa_cons pe_str (pa_cons pe_str (pa_cons pe_str (pa_cons pe_str pa_nil))))))))
      (pss_cons (ps_set (i := 2) S_string.nd rfl (Or.inr rfl) (pe_ix ix_list (pv 1) (pe_call G_next (hr.mono (by decide)) (by rfl) T.next_g T.next_F.kp T.next_b .nil pass0 (pa_cons (pv 0) (pa_cons pe_int pa_nil))) (fun _ _ => rfl)))
      (pss_cons (ps_set (i := 3) S_string.nd rfl (Or.inl rfl) (pe_ix ix_list (pe_lst (pa_cons pe_int (pa_cons pe_int (pa_cons pe_int (pa_cons pe_int (pa_cons pe_int (pa_cons pe_int (pa_cons pe_int (pa_cons pe_int (pa_cons pe_int (pa_cons pe_int (pa_cons pe_int (pa_cons pe_int (pa_cons (pe_call G_next (hr.mono (by decide)) (by rfl) T.next_g T.next_F.kp T.next_b .nil pass0 (pa_cons (pv 0) (pa_cons pe_int pa_nil))) pa_nil)))))))))))))) (pe_call G_next (hr.mono (by decide)) (by rfl) T.next_g T.next_F.kp T.next_b .nil pass0 (pa_cons (pv 0) (pa_cons pe_int pa_nil))) (fun _ _ => rfl)))
      (pss_cons (ps_set (i := 4) S_string.nd rfl (Or.inl rfl) (pe_join pe_str (pe_lc (own := [(("_law_k" : Str), 7)]) (g := gName 7) (tt := tYes) rfl S_string.nd (pi_range1 rfl T.b_range (pa_cons (pv 3) pa_nil)) (blkOk_by (N := N_string) (sc := defScope s_string) (by decide +kernel)) (fun _ _ _ _ _ => pg_name (i := 7) S_string.nd rfl (Or.inl rfl)) (fun _ _ _ _ _ => pts_nil) (fun _ _ _ _ _ => (pe_ix ix_str (pv 2) (pe_call G_next (hr.mono (by decide)) (by rfl) T.next_g T.next_F.kp T.next_b .nil pass0 (pa_cons (pv 0) (pa_cons (pe_callB call_len_str (by rfl) T.b_len (by decide +kernel) (pa_cons (pv 2) pa_nil)) pa_nil))) (fun _ _ => rfl))))))
      (pss_cons (ps_set (i := 5) S_string.nd rfl (Or.inl rfl) (pe_call G_next (hr.mono (by decide)) (by rfl) T.next_g T.next_F.kp T.next_b .nil pass0 (pa_cons (pv 0) (pa_cons (pe_op op_add (pv 3) pe_int) pa_nil))))
      (pss_cons (ps_set (i := 6) S_string.nd rfl (Or.inl rfl) (pe_ix ix_list (pe_lst (pa_cons pe_str (pa_cons pe_str (pa_cons pe_str (pa_cons pe_str (pa_cons pe_str (pa_cons pe_str (pa_cons pe_str pa_nil)))))))) (pe_call G_next (hr.mono (by decide)) (by rfl) T.next_g T.next_F.kp T.next_b .nil pass0 (pa_cons (pv 0) (pa_cons pe_int pa_nil))) (fun _ _ => rfl)))
      (pss_one (ps_ret (pe_lst (pa_cons (pv 4) (pa_cons (pe_op op_add_str pe_str (pe_slice sl_str (pv 4) (po_some pe_int) po_none)) (pa_cons (pe_op op_add_str (pe_op op_add_str (pe_slice sl_str (pv 4) po_none (po_some (pv 5))) (pv 6)) (pe_slice sl_str (pv 4) (po_some (pe_op op_add (pv 5) pe_int)) po_none)) pa_nil)))))))))))), ?_⟩
    -- kinds
    refine ⟨by show 6 ≤ sizeLine; decide, fun k hk => ?_⟩
    have d1 := hd.new (o := .lst [.str "abcxyz", .str "az09-", .str "a.b-9/", .str "aA_ ", .str "az09-./", .str "0-9"]) hk
    have b1 : But d H _ := But.of_same (same_new (o := .lst [.str "abcxyz", .str "az09-", .str "a.b-9/", .str "aA_ ", .str "az09-./", .str "0-9"]) hk)
    have ndk : d ≠ k := hd.ne_new hk
    refine ⟨_, rfl, _, rfl, d, 6, n, rfl, d1, by omega, by decide, by decide, fun v1 H1 v10 v11 d2 b2 => ?_⟩
    have hk1 : H1 k = some (.lst [.str "abcxyz", .str "az09-", .str "a.b-9/", .str "aA_ ", .str "az09-./", .str "0-9"]) := b2 k _ upd_same ndk.symm
    obtain ⟨x1, hx1, mx1⟩ := at_in (xs := [V.str "abcxyz", .str "az09-", .str "a.b-9/", .str "aA_ ", .str "az09-./", .str "0-9"]) v10 v11
    have px1 : ∃ z : Str, x1 = .str z ∧ 3 ≤ z.length ∧ z.length ≤ 10 ∧ Asc z := by
      simp only [List.mem_cons, List.not_mem_nil, or_false] at mx1
      rcases mx1 with rfl | rfl | rfl | rfl | rfl | rfl <;> exact ⟨_, rfl, by decide, by decide, by unfold Asc; decide⟩
    obtain ⟨sg, rfl, sg3, sg10, sga⟩ := px1
    refine ⟨k, _, _, _, rfl, rfl, SqL.of hk1, hx1, ?_⟩
    have b12 := b1.trans b2
    revert d2 b12
    clear hk1 b1 b2 d1 hk hx1 mx1
    generalize e2 : n + 1 = n2
    intro d2 b12
    -- size
    refine ⟨_, rfl, d, 30, n2, rfl, d2, by omega, by decide, by decide, fun v2 H2 v20 v21 d3 b3 => ⟨by show 13 ≤ sizeLine; decide, fun k2 hk2 => ?_⟩⟩
    have d4 := d3.new (o := .lst [.int 0, .int 1, .int 2, .int 11, .int 12, .int 13, .int 19, .int 20, .int 21, .int 59, .int 60, .int 61, .int v2]) hk2
    have b4 := (b12.trans b3).new (o := .lst [.int 0, .int 1, .int 2, .int 11, .int 12, .int 13, .int 19, .int 20, .int 21, .int 59, .int 60, .int 61, .int v2]) hk2
    have ndk2 : d ≠ k2 := d3.ne_new hk2
    refine ⟨_, rfl, d, 13, n2 + 1, rfl, d4, by omega, by decide, by decide, fun v3 H3 v30 v31 d5 b5 => ?_⟩
    have hk3 := b5 k2 _ upd_same ndk2.symm
    obtain ⟨x2, hx2, mx2⟩ := at_in (xs := [V.int 0, .int 1, .int 2, .int 11, .int 12, .int 13, .int 19, .int 20, .int 21, .int 59, .int 60, .int 61, .int v2]) v30 v31
    have px2 : ∃ z : Nat, x2 = .int (z : Int) ∧ z ≤ 61 := by
      simp only [List.mem_cons, List.not_mem_nil, or_false] at mx2
      rcases mx2 with rfl | rfl | rfl | rfl | rfl | rfl | rfl | rfl | rfl | rfl | rfl | rfl | rfl
      · exact ⟨0, rfl, by decide⟩
      · exact ⟨1, rfl, by decide⟩
      · exact ⟨2, rfl, by decide⟩
      · exact ⟨11, rfl, by decide⟩
      · exact ⟨12, rfl, by decide⟩
      · exact ⟨13, rfl, by decide⟩
      · exact ⟨19, rfl, by decide⟩
      · exact ⟨20, rfl, by decide⟩
      · exact ⟨21, rfl, by decide⟩
      · exact ⟨59, rfl, by decide⟩
      · exact ⟨60, rfl, by decide⟩
      · exact ⟨61, rfl, by decide⟩
      · obtain ⟨j, rfl⟩ := Int.eq_ofNat_of_zero_le v20
        exact ⟨j, rfl, by omega⟩
    obtain ⟨sz, rfl, sz61⟩ := px2
    refine ⟨k2, _, _, _, rfl, rfl, SqL.of hk3, hx2, ?_⟩
    have b45 := b4.trans b5
    revert d5 b45
    clear hk3 b4 b5 b3 d4 d3 hk2 hx2 mx2 d2 b12
    generalize e3 : n2 + 1 + 1 = n3
    intro d5 b45
    -- found
    refine ⟨⟨_, rfl⟩, _, rfl, _, rfl, by omega, by omega, fun DD hDD => ?_⟩
    have ndD : d ≠ DD := d5.ne_new hDD
    refine lc_range (lo := 0) (n := (sz : Int).toNat) (fun i H' => Dr H' d (n3 + i) ∧ But d H H' ∧ H DD = none ∧ ∃ ys : List Str, ys.length = i ∧ (∀ y ∈ ys, y.length = 1 ∧ Asc y) ∧ H' DD = some (.lst (ys.map V.str)))
      ⟨d5.new hDD, b45.new hDD, b45.free ndD hDD, [], rfl, by simp, upd_same⟩ ?_ ?_
    · rintro i H4 hi ⟨d6, b6, hDH, ys, yl, yp, hD4⟩
      refine ⟨rfl, _, rfl, _, rfl, _, rfl, sg, rfl, szl (by omega), d, _, n3 + i, rfl, d6, by omega, by omega, by omega, fun v4 H5 v40 v41 d7 b7 => ?_⟩
      have hsl : (sg.length : Int) = (sg.cps.toList.length : Int) := by simp [Str.length]
      obtain ⟨c, hc, mc⟩ := at_in (xs := sg.cps.toList) v40 (by rw [← hsl]; exact v41)
      refine ⟨sg, _, c, rfl, rfl, szl (by omega), hc, ?_⟩
      have hD5 := b7 DD _ hD4 ndD.symm
      have smE : Same H5 (upd H5 DD (.lst (ys.map V.str ++ [.str ⟨#[c]⟩]))) → True := fun _ => trivial
      refine ⟨_, hD5, szt (by rw [List.length_map]; omega), ?_, ?_, hDH, ys ++ [⟨#[c]⟩], by simp [yl], ?_, ?_⟩
      · obtain ⟨c9, cs9, a9, l9, u9, h1, h2, h3⟩ := d7
        have nD : DD ≠ d := ndD.symm
        have nc : DD ≠ c9 := by
          intro e
          rw [← e, hD5] at h2
          have h2' := Option.some.inj h2
          injection h2' with h2''
          cases cs9 with
          | nil => exact absurd rfl h3.1
          | cons z r =>
            cases ys with
            | nil => cases h2''
            | cons y r' => cases h2''
        refine ⟨c9, cs9, a9, l9, u9, by rw [upd_ne nD.symm]; exact h1, by rw [upd_ne nc.symm]; exact h2, h3.1, h3.2.1, h3.2.2.1, by omega, h3.2.2.2.2.1, h3.2.2.2.2.2.1, by omega⟩
      · intro b o e nb
        have e4 := b6 b o e nb
        have nbD : b ≠ DD := ne_of_none e hDH
        rw [upd_ne nbD]
        exact b7 b o e4 nb
      · intro y hy
        rcases List.mem_append.mp hy with h | h
        · exact yp y h
        · have e : y = ⟨#[c]⟩ := by simpa using h
          rw [e]
          exact ⟨rfl, Asc.one (sga c mc)⟩
      · rw [upd_same]
        simp
    · rintro H4 ⟨d6, b6, hDH, ys, yl, yp, hD4⟩
      have ysum : (ys.map (·.length)).sum = ys.length := by
        have hh : ∀ l : List Str, (∀ y ∈ l, y.length = 1 ∧ Asc y) → (l.map (·.length)).sum = l.length := by
          intro l
          induction l with
          | nil => intro _; rfl
          | cons y r ih =>
            intro h
            rw [List.map_cons, List.sum_cons, ih fun z hz => h z (List.mem_cons_of_mem _ hz), (h y (by simp)).1, List.length_cons]
            omega
        exact hh ys yp
      have ylen : ys.length ≤ 61 := by omega
      refine ⟨_, DD, ys, rfl, rfl, .inl (SqL.of hD4), by rw [ysum]; show ys.length + ys.length * 0 ≤ 16777216; omega, ?_⟩
      have fl : (Txt.join "" ys).length ≤ 61 := by
        rw [TL.join_eq]
        have h1 := PySem.StrLaws.join_length_le "" ys
        rw [ysum] at h1
        have e0 : (("" : String) : Str).length = 0 := rfl
        rw [e0] at h1
        omega
      have fa : Asc (Txt.join "" ys) := by
        rw [TL.join_eq]
        exact Asc.join (by unfold Asc; decide) fun y hy => (yp y hy).2
      generalize Txt.join "" ys = fd at fl fa
      clear hD4 yp ysum
      revert d6 b6
      generalize e4 : n3 + (sz : Int).toNat = n4
      intro d6 b6
      have en4 : n4 = n3 + sz := by omega
      -- at
      refine ⟨_, rfl, _, rfl, _, _, rfl, rfl, d, _, n4, rfl, d6, by omega, by omega, by omega, fun v5 H5 v50 v51 d7 b7 => ?_⟩
      have b8 := b6.trans b7
      -- odd
      refine ⟨by show 7 ≤ sizeLine; decide, fun k3 hk3 => ?_⟩
      have d8 := d7.new (o := .lst [.str "A", .str " ", .str "\n", .str "=", .str "-", .str "/", .str "."]) hk3
      have b9 := b8.new (o := .lst [.str "A", .str " ", .str "\n", .str "=", .str "-", .str "/", .str "."]) hk3
      have ndk3 : d ≠ k3 := d7.ne_new hk3
      refine ⟨_, rfl, d, 7, n4 + 1, rfl, d8, by omega, by decide, by decide, fun v6 H6 v60 v61 d9 b10 => ?_⟩
      have hk4 := b10 k3 _ upd_same ndk3.symm
      obtain ⟨x3, hx3, mx3⟩ := at_in (xs := [V.str "A", .str " ", .str "\n", .str "=", .str "-", .str "/", .str "."]) v60 v61
      have px3 : ∃ z : Str, x3 = .str z ∧ z.length = 1 ∧ Asc z := by
        simp only [List.mem_cons, List.not_mem_nil, or_false] at mx3
        rcases mx3 with rfl | rfl | rfl | rfl | rfl | rfl | rfl <;> exact ⟨_, rfl, by decide, by unfold Asc; decide⟩
      obtain ⟨od, rfl, odl, oda⟩ := px3
      refine ⟨k3, _, _, _, rfl, rfl, SqL.of hk4, hx3, ?_⟩
      have b11 := b9.trans b10
      -- the three
      have c1 := cutS_length fd (some 1) none
      have c2 := cutS_length fd none (some v5)
      have c3 := cutS_length fd (some (v5 + 1)) none
      have la : (("a" : String) : Str).length = 1 := rfl
      refine ⟨_, rfl, _, rfl, _, rfl, fd, rfl, szl (by omega), _, _, rfl, rfl, szl (by rw [la]; omega), ?_⟩
      refine ⟨_, rfl, _, rfl, _, rfl, fd, rfl, szl (by omega), _, rfl, _, _, rfl, rfl, szl (by omega), ?_⟩
      refine ⟨_, rfl, _, rfl, _, _, rfl, rfl, _, rfl, fd, rfl, szl (by omega), _, _, rfl, rfl, szl (by rw [len_app]; omega), ?_⟩
      refine ⟨by show 3 ≤ sizeLine; decide, fun p hp => ?_⟩
      have ndp : d ≠ p := d9.ne_new hp
      refine q p _ _ _ _ (b11.free ndp hp) upd_same (by omega) (by rw [len_app, la]; omega) (by rw [len_app, len_app]; omega) fa (Asc.append (by unfold Asc; decide) (fa.cut _ _)) (((fa.cut _ _).append oda).append (fa.cut _ _)) ((d9.new hp).mono (by omega)) (b11.new hp)
end

/-! ### what the law asks -/
section
variable {P : Program} {w : World} {K : PySem.W.Frag} {mg : Str → Option Value} {base : Heap} {D : Ad}
theorem strOk_asc {t : Str} (h : Asc t) : PyData.strOk t = true := by
  unfold PyData.strOk
  rw [Array.all_eq_true']
  intro c hc
  have := h c (by simpa using hc)
  simp only [decide_eq_true_eq]
  omega
theorem strs_ok : ∀ {ys : List Str}, (∀ y ∈ ys, Asc y) → PyData.canLayAll0 (ys.map .str) = true
  | [], _ => rfl
  | y :: r, h => by
    show (PyData.canLay0 (.str y) && PyData.canLayAll0 (r.map .str)) = true
    rw [strs_ok fun z hz => h z (List.mem_cons_of_mem _ hz)]
    have := strOk_asc (h y (by simp))
    simp [PyData.canLay0, this]
theorem strs_depth : ∀ {ys : List Str}, PyData.depthAll (ys.map .str) = 0
  | [] => rfl
  | y :: r => by
    show max (PyData.depth (.str y)) (PyData.depthAll (r.map .str)) = 0
    rw [strs_depth (ys := r)]
    rfl
theorem strs_shaped {ys : List Str} (h : ∀ y ∈ ys, Asc y) : SeqAt.shaped (.list (ys.map .str)) = true := by
  unfold SeqAt.shaped
  have e : PyData.canLay0 (.list (ys.map .str)) = true := by
    simp only [PyData.canLay0]
    exact strs_ok h
  rw [e]
  simp only [PyData.depth, strs_depth]
  rfl
theorem dp_strs {K : PySem.W.Frag} {H : Hp} : ∀ {ys : List Str}, DpAll K H (ys.map V.str) (ys.map .str)
  | [] => .nil
  | y :: r => .cons (.str y) (dp_strs (ys := r))
theorem filt_none {t : Str} {sg : Str} : (t.cps.toList.filter fun c => !inS sg c).map (fun c => V.str ⟨#[c]⟩) = ((t.cps.toList.filter fun c => !inS sg c).map fun c => (⟨#[c]⟩ : Str)).map V.str := by
  rw [List.map_map]
  rfl
theorem eqv_empty {ds : List PyData} : PyData.eqv (.list ds) (.list []) = ds.isEmpty := by
  cases ds with
  | nil => rfl
  | cons d r => rfl
theorem none_all {l : List Nat} {sg : Str} : ((l.filter fun c => !inS sg c).map fun c => PyData.str ⟨#[c]⟩).isEmpty = l.all (inS sg) := by
  rw [Bool.eq_iff_iff, List.isEmpty_iff, List.map_eq_nil_iff, List.filter_eq_nil_iff, List.all_eq_true]
  constructor
  · intro h c hc
    have := h c hc
    simpa using this
  · intro h c hc
    simp [h c hc]
theorem ok_consists (T : Tex K mg D) : FnOk P w K mg base CX0 1 D.a_consists D.d_consists P_consists (spStr3 K) := by
  refine T.consists_F.ok S_consists (fun vs H Q E h => ?_) (fun cdv A outer s H vs Q E hr h => ?_)
  · obtain ⟨x, sg, m, rfl, _⟩ := h
    rfl
  · obtain ⟨x, sg, m, rfl, hx, q⟩ := h
    refine ⟨_, (pss_cons (ps_if (PW.pt (pw_or (pt_not (pt_val (pe_callB call_isi (by rfl) T.b_isinstance (by decide +kernel) (pa_cons (pv 0) (pa_cons (pe_bltn (v := .ty "str") (u := .type "str") (by rfl) T.b_str (by decide +kernel) rfl) pa_nil))))) (pw_or (pt_cmpR op_eq (pv 0) pe_str (nomark _)) (pw_or1 (pt_cmpR op_gt (pe_callB call_len_str (by rfl) T.b_len (by decide +kernel) (pa_cons (pv 0) pa_nil)) (pv 2) (nomark _)))))) (pss_one (ps_ret pe_bl)) pss_nil)
      (pss_one (ps_ret (pe_cmpR (op_eqD hr.units) (pe_lc (own := [(("_law_sign" : Str), 3)]) (g := gName 3) rfl S_consists.nd (pi_str (pv 0)) (blkOk_by (N := N_consists) (sc := defScope s_consists) (by decide +kernel)) (fun _ _ _ _ _ => pg_name (i := 3) S_consists.nd rfl (Or.inl rfl)) (fun _ _ _ _ _ => (pts_one (pt_cmpR op_notIn_sign (pv 3) (pv 1) rfl))) (fun _ _ _ _ _ => (pv 3))) (pe_lst pa_nil) (nomark _))))), ?_⟩
    rcases hx with ⟨t, rfl, hl, ha⟩ | ⟨hn, ty, hty, hk⟩
    · refine ⟨_, rfl, .str t, .ty "str", .type "str", .type "str", true, rfl, .ty _, .base (.str t), kit_ty (by decide +kernel), true, rfl, iteF ?_⟩
      have eg : good (.str t) sg m = (decide (1 ≤ (t.length : Int)) && (decide ((t.length : Int) ≤ m) && t.cps.toList.all (inS sg))) := rfl
      rw [eg] at q
      refine ⟨_, rfl, rfl, _, rfl, ?_⟩
      refine ite2 (fun h1 => ?_) (fun h1 => ?_)
      · have e : V.str t = V.str (PySem.Str.ofString "") := of_decide_eq_true h1
        injection e with e
        have e0 : t.length = 0 := by rw [e]; rfl
        have q2 := q H (Same.refl H)
        rw [e0] at q2
        exact q2
      · have hne : ¬ t.length = 0 := by
          intro e0
          refine h1 (decide_eq_true ?_)
          have : t = PySem.Str.ofString "" := by
            obtain ⟨⟨l⟩⟩ := t
            have : l = [] := by simpa [PySem.Str.length] using e0
            rw [this]
            rfl
          rw [this]
        have h1' : decide (1 ≤ (t.length : Int)) = true := decide_eq_true (by omega)
        rw [h1'] at q
        refine ⟨_, rfl, t, rfl, szl (by omega), _, rfl, _, _, rfl, rfl, _, rfl, ?_⟩
        refine ite2 (fun h2 => ?_) (fun h2 => ?_)
        · have h2' : decide ((t.length : Int) ≤ m) = false := decide_eq_false (by have := of_decide_eq_true h2; omega)
          have q2 := q H (Same.refl H)
          rw [h2'] at q2
          exact q2
        · have h2' : decide ((t.length : Int) ≤ m) = true := decide_eq_true (by
            have h3 : ¬ (m < (t.length : Int)) := fun h => h2 (decide_eq_true h)
            omega)
          rw [h2'] at q
          refine ⟨_, rfl, t, rfl, fun D hD => lc_txt (fun c => !inS sg c) (fun c => .str ⟨#[c]⟩) hD (szt (by omega)) (fun c hc H2 R S s2 g1 g2 => ?_) (fun H2 s2 hD2 => ?_)⟩
          · refine ⟨rfl, _, rfl, _, rfl, c, sg, rfl, rfl, _, rfl, ?_⟩
            refine ite2 (fun h3 => ?_) (fun h3 => ?_)
            · exact ⟨_, rfl, g1 h3 _ (Same.refl _)⟩
            · exact g2 (Bool.eq_false_iff.mpr h3) _ (Same.refl _)
          · refine ⟨by show 0 ≤ sizeLine; decide, fun e he => ?_⟩
            rw [filt_none] at hD2
            have hD3 : (upd H2 e (.lst [])) D = some (.lst (((t.cps.toList.filter fun c => !inS sg c).map fun c => (⟨#[c]⟩ : Str)).map V.str)) := by
              rw [upd_ne (ne_of_none hD2 he)]
              exact hD2
            refine ⟨.list (((t.cps.toList.filter fun c => !inS sg c).map fun c => (⟨#[c]⟩ : Str)).map .str), .list [], .lst (SqL.of hD3) dp_strs, .lst (SqL.of upd_same) .nil, strs_shaped ?_, by decide, ?_⟩
            · intro y hy
              obtain ⟨c, hc, rfl⟩ := List.mem_map.mp hy
              exact Asc.one (ha c (List.mem_filter.mp hc).1)
            · rw [eqv_empty, List.map_map]
              have e5 : (PyData.str ∘ fun c => (⟨#[c]⟩ : Str)) = fun c => PyData.str ⟨#[c]⟩ := rfl
              rw [e5, none_all]
              exact q _ (s2.trans (same_new he))
    · refine ⟨_, rfl, x, .ty "str", .type ty, .type "str", false, rfl, .ty _, hty, kit_ty hk, false, rfl, iteT ?_⟩
      rw [good_no sg m hn] at q
      exact q H (Same.refl H)
/-- the texts of the law are those of the program -/
theorem name_eq : (("abcdefghijklmnopqrstuvwxyz" : String) : Str) ++ (("0123456789-" : String) : Str) = letters ++ digits ++ (("-" : String) : Str) := by decide +kernel
theorem path_eq : (("abcdefghijklmnopqrstuvwxyz" : String) : Str) ++ (("0123456789.-/" : String) : Str) = letters ++ digits ++ ((".-/" : String) : Str) := by decide +kernel
theorem and_val {c v : Bool} {tb : TE} {σ : L2.St} {H : Hp} {Q : VK} (h1 : c = true → ∀ Q' : VK, Q' (.bl v) H → tb σ H Q') (h0 : c = false → v = false) (q : Q (.bl v) H) : if c = true then tb σ H Q else Q (.bl false) H := by
  cases c with
  | true => exact iteT (h1 rfl Q q)
  | false =>
    rw [h0 rfl] at q
    exact iteF q
def dueL (x : V) : List Bool := [goodName x, goodWord x, goodPath x]
theorem dp_bls {K : PySem.W.Frag} {H : Hp} : ∀ {bs : List Bool}, DpAll K H (bs.map V.bl) (bs.map .bool)
  | [] => .nil
  | y :: r => .cons (.bl y) (dp_bls (bs := r))
def shownL (bs : List Bool) : Str := PyData.shown (.list (bs.map .bool))
theorem shown3 (a b c : Bool) : (PyData.shown (.list [.bool a, .bool b, .bool c])).length ≤ sizeLine := by
  cases a <;> cases b <;> cases c <;> exact szl (by decide +kernel)
def spRight (K : PySem.W.Frag) : Sp := fun vs H Q _ => ∃ x : V, vs = [x] ∧ Th K H x ∧ ∀ H', Same H H' → Q (.bl true) H'
theorem ok_right (T : Tex K mg D) : FnG P w K mg base 4 D.a_right D.d_right P_right (spRight K) := by
  have G_consists : FnOk P w K mg base CX0 1 D.a_consists D.d_consists P_consists (spStr3 K) := ok_consists T
  have G_is_name : FnOk P w K mg base CX0 3 D.a_is_name D.d_is_name P_is_name (spIs K goodName) := ok_is_name T
  have G_is_word : FnOk P w K mg base CX0 3 D.a_is_word D.d_is_word P_is_word (spIs K goodWord) := ok_is_word T
  have G_is_path : FnOk P w K mg base CX0 3 D.a_is_path D.d_is_path P_is_path (spIs K goodPath) := ok_is_path T
  refine fnG_of T.right_F S_right (fun vs H Q E h => ?_) (fun cdv A outer s H vs Q hg hr h => ?_)
  · obtain ⟨x, rfl, _⟩ := h
    rfl
  · obtain ⟨x, rfl, hx, q⟩ := h
    refine ⟨_, (pss_cons (ps_set (i := 1) S_right.nd rfl (Or.inl rfl) pe_str)
      (pss_cons (ps_set (i := 2) S_right.nd rfl (Or.inl rfl) (pe_lst (pa_cons (pe_call G_consists (hr.mono (by decide)) (by rfl) T.consists_g T.consists_F.kp T.consists_b .nil pass0 (pa_cons (pv 0) (pa_cons (pe_op op_add_str (pv 1) pe_str) (pa_cons pe_int pa_nil)))) (pa_cons (pe_call G_consists (hr.mono (by decide)) (by rfl) T.consists_g T.consists_F.kp T.consists_b .nil pass0 (pa_cons (pv 0) (pa_cons (pv 1) (pa_cons pe_int pa_nil)))) pa_nil))))
      (pss_cons (ps_set (i := 2) S_right.nd rfl (Or.inl rfl) (pe_lst (pa_cons (pe_and (pe_ix ix_list (pv 2) pe_int (fun _ _ => rfl)) (pe_one (pe_cmpR op_in_sign (pe_ix ix_str (pv 0) pe_int (fun _ _ => rfl)) (pv 1) rfl))) (pa_cons (pe_ix ix_list (pv 2) pe_int (fun _ _ => rfl)) (pa_cons (pe_call G_consists (hr.mono (by decide)) (by rfl) T.consists_g T.consists_F.kp T.consists_b .nil pass0 (pa_cons (pv 0) (pa_cons (pe_op op_add_str (pv 1) pe_str) (pa_cons pe_int pa_nil)))) pa_nil)))))
      (pss_cons (ps_set (i := 3) S_right.nd rfl (Or.inl rfl) (pe_lst (pa_cons (pe_call G_is_name (hr.mono (by decide)) (by rfl) T.is_name_g T.is_name_F.kp T.is_name_b .nil pass0 (pa_cons (pv 0) pa_nil)) (pa_cons (pe_call G_is_word (hr.mono (by decide)) (by rfl) T.is_word_g T.is_word_F.kp T.is_word_b .nil pass0 (pa_cons (pv 0) pa_nil)) (pa_cons (pe_call G_is_path (hr.mono (by decide)) (by rfl) T.is_path_g T.is_path_F.kp T.is_path_b .nil pass0 (pa_cons (pv 0) pa_nil)) pa_nil)))))
      (pss_cons (ps_set (i := 4) S_right.nd rfl (Or.inl rfl) (pe_lst (pa_cons (pe_kwG (FnG.of G_is_name) hg (hr.mono (by decide)) (by rfl) T.is_name_g T.is_name_F.kp T.is_name_kb (pk_cons (pv 0) pk_nil)) (pa_cons (pe_kwG (FnG.of G_is_word) hg (hr.mono (by decide)) (by rfl) T.is_word_g T.is_word_F.kp T.is_word_kb (pk_cons (pv 0) pk_nil)) (pa_cons (pe_kwG (FnG.of G_is_path) hg (hr.mono (by decide)) (by rfl) T.is_path_g T.is_path_F.kp T.is_path_kb (pk_cons (pv 0) pk_nil)) pa_nil)))))
      (pss_one (ps_ret (pe_and (pe_cmpR op_eq (pe_callB (call_repr hg hr.units) (by rfl) T.b_repr (by decide +kernel) (pa_cons (pv 3) pa_nil)) (pe_callB (call_repr hg hr.units) (by rfl) T.b_repr (by decide +kernel) (pa_cons (pv 2) pa_nil)) (nomark _)) (pe_one (pe_cmpR op_eq (pe_callB (call_repr hg hr.units) (by rfl) T.b_repr (by decide +kernel) (pa_cons (pv 4) pa_nil)) (pe_callB (call_repr hg hr.units) (by rfl) T.b_repr (by decide +kernel) (pa_cons (pv 2) pa_nil)) (nomark _))))))))))), ?_⟩
    have l26 : (("abcdefghijklmnopqrstuvwxyz" : String) : Str).length + (("0123456789-" : String) : Str).length ≤ sizeLine := szl (by decide)
    have l26' : (("abcdefghijklmnopqrstuvwxyz" : String) : Str).length + (("0123456789.-/" : String) : Str).length ≤ sizeLine := szl (by decide)
    -- small; due
    refine ⟨_, rfl, _, rfl, _, _, rfl, rfl, l26, x, _, 20, rfl, hx, fun H1 s1 => ?_⟩
    refine ⟨_, rfl, _, rfl, x, _, 12, rfl, hx.keep s1, fun H2 s2 => ⟨by show 2 ≤ sizeLine; decide, fun u hu1 => ?_⟩⟩
    have s3 := (s1.trans s2).trans (same_new (o := .lst [.bl (good x ((("abcdefghijklmnopqrstuvwxyz" : String) : Str) ++ (("0123456789-" : String) : Str)) 20), .bl (good x (("abcdefghijklmnopqrstuvwxyz" : String) : Str) 12)]) hu1)
    have hu2 : (upd H2 u (.lst [.bl (good x ((("abcdefghijklmnopqrstuvwxyz" : String) : Str) ++ (("0123456789-" : String) : Str)) 20), .bl (good x (("abcdefghijklmnopqrstuvwxyz" : String) : Str) 12)])) u = some _ := upd_same
    revert s3 hu2
    generalize upd H2 u (.lst [.bl (good x ((("abcdefghijklmnopqrstuvwxyz" : String) : Str) ++ (("0123456789-" : String) : Str)) 20), .bl (good x (("abcdefghijklmnopqrstuvwxyz" : String) : Str) 12)]) = H3
    intro s3 hu2
    rw [name_eq] at hu2
    -- due, again
    have fst : good x (letters ++ digits ++ "-") 20 = false → goodName x = false := fun h0 => by
      unfold goodName
      rw [h0]
      rfl
    refine ⟨_, rfl, u, _, 0, _, rfl, rfl, SqL.of hu2, atI_nat (j := 0) rfl, _, rfl, and_val (v := goodName x) (fun h1 Q' q' => ?_) fst ?_⟩
    · obtain ⟨t, c, r, rfl, ec, el⟩ := good_text h1
      have h100 : t.length ≤ 200 := by
        rcases hx with ⟨t', e, hl, _⟩ | ⟨hn, _⟩
        · cases e
          exact hl
        · exact absurd rfl (hn t)
      refine ⟨_, rfl, t, 0, c, rfl, rfl, szl (by omega), by rw [ec]; exact atI_nat (j := 0) rfl, _, rfl, c, letters, rfl, rfl, ?_⟩
      unfold goodName at q'
      rw [h1] at q'
      simp only [first, ec, Bool.true_and] at q'
      exact q'
    refine ⟨_, rfl, u, _, 1, _, rfl, rfl, SqL.of hu2, atI_nat (j := 1) rfl, ?_⟩
    refine ⟨_, rfl, _, rfl, _, _, rfl, rfl, l26', x, _, 60, rfl, hx.keep s3, fun H4 s4 => ⟨by show 3 ≤ sizeLine; decide, fun v hv => ?_⟩⟩
    have s5 := (s3.trans s4).trans (same_new (o := .lst [.bl (goodName x), .bl (good x (("abcdefghijklmnopqrstuvwxyz" : String) : Str) 12), .bl (good x ((("abcdefghijklmnopqrstuvwxyz" : String) : Str) ++ (("0123456789.-/" : String) : Str)) 60)]) hv)
    have hv2 : (upd H4 v (.lst [.bl (goodName x), .bl (good x (("abcdefghijklmnopqrstuvwxyz" : String) : Str) 12), .bl (good x ((("abcdefghijklmnopqrstuvwxyz" : String) : Str) ++ (("0123456789.-/" : String) : Str)) 60)])) v = some _ := upd_same
    revert s5 hv2
    generalize upd H4 v (.lst [.bl (goodName x), .bl (good x (("abcdefghijklmnopqrstuvwxyz" : String) : Str) 12), .bl (good x ((("abcdefghijklmnopqrstuvwxyz" : String) : Str) ++ (("0123456789.-/" : String) : Str)) 60)]) = H5
    intro s5 hv2
    rw [path_eq] at hv2
    -- told, named
    refine ⟨_, rfl, x, rfl, hx.keep s5, fun H6 s6 => ⟨_, rfl, x, rfl, hx.keep (s5.trans s6), fun H7 s7 => ⟨_, rfl, x, rfl, hx.keep ((s5.trans s6).trans s7), fun H8 s8 => ⟨by show 3 ≤ sizeLine; decide, fun a ha => ?_⟩⟩⟩⟩
    have t1 := ((s6.trans s7).trans s8).trans (same_new (o := .lst [.bl (goodName x), .bl (goodWord x), .bl (goodPath x)]) ha)
    have ha2 : (upd H8 a (.lst [.bl (goodName x), .bl (goodWord x), .bl (goodPath x)])) a = some _ := upd_same
    revert t1 ha2
    generalize upd H8 a (.lst [.bl (goodName x), .bl (goodWord x), .bl (goodPath x)]) = H9
    intro t1 ha2
    refine ⟨_, rfl, x, rfl, hx.keep (s5.trans t1), fun H10 s10 => ⟨_, rfl, x, rfl, hx.keep ((s5.trans t1).trans s10), fun H11 s11 => ⟨_, rfl, x, rfl, hx.keep (((s5.trans t1).trans s10).trans s11), fun H12 s12 => ⟨by show 3 ≤ sizeLine; decide, fun b hb => ?_⟩⟩⟩⟩
    have t2 := ((s10.trans s11).trans s12).trans (same_new (o := .lst [.bl (goodName x), .bl (goodWord x), .bl (goodPath x)]) hb)
    have hb2 : (upd H12 b (.lst [.bl (goodName x), .bl (goodWord x), .bl (goodPath x)])) b = some _ := upd_same
    revert t2 hb2
    generalize upd H12 b (.lst [.bl (goodName x), .bl (goodWord x), .bl (goodPath x)]) = H13
    intro t2 hb2
    have dv : Dp K H13 (.ref v) (.list [.bool (goodName x), .bool (goodWord x), .bool (goodPath x)]) := .lst (SqL.of (t2 _ _ (t1 _ _ hv2))) (.cons (.bl _) (.cons (.bl _) (.cons (.bl _) .nil)))
    have da : Dp K H13 (.ref a) (.list [.bool (goodName x), .bool (goodWord x), .bool (goodPath x)]) := .lst (SqL.of (t2 _ _ ha2)) (.cons (.bl _) (.cons (.bl _) (.cons (.bl _) .nil)))
    have db : Dp K H13 (.ref b) (.list [.bool (goodName x), .bool (goodWord x), .bool (goodPath x)]) := .lst (SqL.of hb2) (.cons (.bl _) (.cons (.bl _) (.cons (.bl _) .nil)))
    refine ⟨_, rfl, _, _, rfl, da, rfl, rfl, Nat.le_of_ble_eq_true rfl, shown3 _ _ _, _, rfl, _, _, rfl, dv, rfl, rfl, Nat.le_of_ble_eq_true rfl, shown3 _ _ _, rfl, _, rfl, ?_⟩
    rw [decide_eq_true rfl]
    refine iteT ⟨_, rfl, _, _, rfl, db, rfl, rfl, Nat.le_of_ble_eq_true rfl, shown3 _ _ _, _, rfl, _, _, rfl, dv, rfl, rfl, Nat.le_of_ble_eq_true rfl, shown3 _ _ _, rfl, ?_⟩
    rw [decide_eq_true rfl]
    exact q _ ((s5.trans t1).trans t2)
end

/-! ### the law -/
section
variable {P : Program} {w : World} {K : PySem.W.Frag} {mg : Str → Option Value} {base : Heap} {D : Ad}
def spLaw (K : PySem.W.Frag) : Sp := fun vs H Q _ => ∃ (a : Addr) (ns : List Int), vs = [.ref a] ∧ Bare K H a (ns.map V.int) ∧ ns.length ≤ 63 ∧ ∀ H', Q (.bl true) H'
theorem th_str {K : PySem.W.Frag} {H : Hp} {t : Str} (h : t.length ≤ 200) (a : Asc t) : Th K H (.str t) := .inl ⟨t, rfl, h, a⟩
theorem ok_law (T : Tex K mg D) : FnG P w K mg base 5 D.a_law D.d_law P_law (spLaw K) := by
  have G_begin : FnOk P w K mg base CX0 1 D.a_begin D.d_begin P_begin (spBegin K) := ok_begin T
  have G_next : FnOk P w K mg base CX0 2 D.a_next D.d_next P_next spNext := ok_next T
  have G_string : FnOk P w K mg base CX0 3 D.a_string D.d_string P_string spString := ok_string T
  have G_right : FnG P w K mg base 4 D.a_right D.d_right P_right (spRight K) := ok_right T
  refine fnG_of T.law_F S_law (fun vs H Q E h => ?_) (fun cdv A outer s H vs Q hg hr h => ?_)
  · obtain ⟨a, ns, rfl, _⟩ := h
    rfl
  · obtain ⟨a, ns, rfl, hb, hl, q⟩ := h
    refine ⟨_, (pss_cons (ps_set (i := 1) S_law.nd rfl (Or.inl rfl) (pe_call G_begin (hr.mono (by decide)) (by rfl) T.begin_g T.begin_F.kp T.begin_b .nil pass0 (pa_cons (pv 0) pa_nil)))
      (pss_cons (ps_for PassesOwn.never rfl (pi_range1 rfl T.b_range (pa_cons (pe_callB (call_min2 rfl) (by rfl) T.b_min (by decide +kernel) (pa_cons pe_int (pa_cons (pe_op op_add pe_int (pe_callB call_len_seq (by rfl) T.b_len (by decide +kernel) (pa_cons (pv 0) pa_nil))) pa_nil))) pa_nil)) (pg_name (i := 2) S_law.nd rfl (Or.inl rfl)) (pss_cons (ps_for PassesOwn.never rfl (pi_list (pe_call G_string (hr.mono (by decide)) (by rfl) T.string_g T.string_F.kp T.string_b .nil pass0 (pa_cons (pv 1) pa_nil))) (pg_name (i := 3) S_law.nd rfl (Or.inl rfl)) (pss_one (ps_if (pt_not (pt_val (pe_callG G_right hg (hr.mono (by decide)) (by rfl) T.right_g T.right_F.kp T.right_b (pa_cons (pv 3) pa_nil)))) (pss_one (ps_ret pe_bl)) pss_nil)))
      (pss_cons (ps_set (i := 4) S_law.nd rfl (Or.inl rfl) (pe_ix ix_list (pe_lst (pa_cons pe_non (pa_cons pe_int (pa_cons pe_bl (pa_cons (pe_tup pa_nil) (pa_cons (pe_lst (pa_cons pe_str pa_nil)) (pa_cons (pe_tup (pa_cons pe_str pa_nil)) (pa_cons pe_dnewK (pa_cons (pe_disp (pps_cons pe_str pe_int pps_nil) (by rfl) (by rfl) (fun z => by cases z) (by decide)) (pa_cons (pe_op op_pow pe_int pe_int) pa_nil)))))))))) (pe_call G_next (hr.mono (by decide)) (by rfl) T.next_g T.next_F.kp T.next_b .nil pass0 (pa_cons (pv 1) (pa_cons pe_int pa_nil))) (fun _ _ => rfl)))
      (pss_one (ps_if (pt_not (pt_val (pe_callG G_right hg (hr.mono (by decide)) (by rfl) T.right_g T.right_F.kp T.right_b (pa_cons (pv 4) pa_nil)))) (pss_one (ps_ret pe_bl)) pss_nil)))))
      (pss_one (ps_ret pe_bl)))), ?_⟩
    refine ⟨_, rfl, a, ns, rfl, hb, hl, fun d H1 hd s1 D1 => ?_⟩
    have hb1 := hb.keep s1
    have nl : (ns.map V.int).length = ns.length := List.length_map _
    refine ⟨_, rfl, a, _, rfl, .inl (hb1.seq (by rw [nl]; exact szl (by omega))), _, _, rfl, rfl, _, _, rfl, _, rfl, ?_, ?_, ?_⟩
    · rw [nl]
      split <;> omega
    · rw [nl]
      split <;> omega
    have hcnt : (if (6 + ((ns.map V.int).length : Int)) < 24 then (6 + ((ns.map V.int).length : Int)) else 24).toNat ≤ 24 := by split <;> omega
    revert hcnt
    generalize (if (6 + ((ns.map V.int).length : Int)) < 24 then (6 + ((ns.map V.int).length : Int)) else 24).toNat = cnt
    intro hcnt
    refine for_range (lo := 0) (n := cnt) (fun i σ H' => ∃ (t x o : Option V), σ = [some (.ref a), some (.ref d), t, x, o] ∧ Dr H' d (200 * i)) ⟨none, none, none, rfl, D1⟩ ?_ ?_
    · rintro i σ H2 hi ⟨t, x, o, rfl, D2⟩
      refine ⟨_, rfl, d, _, rfl, D2, by omega, fun p sx sy sz H3 hp hp3 lx ly lz ax ay az D3 b3 => ?_⟩
      have ndp : p ≠ d := (D2.ne_new hp).symm
      refine ⟨p, rfl, ⟨_, SqL.of hp3⟩, for_list (K := K) (a := p) (xs := [.str sx, .str sy, .str sz]) (fun j σ H' => ∃ x' : Option V, σ = [some (.ref a), some (.ref d), some (.int (0 + (i : Int))), x', o] ∧ Dr H' d (200 * i + 100) ∧ H' p = some (.lst [.str sx, .str sy, .str sz]))
        ⟨x, rfl, D3, hp3⟩ (fun j σ H' _ ⟨_, _, _, h⟩ => SqL.of h) ?_ ?_⟩
      · rintro j y σ H4 hj ⟨x', rfl, D4, hp4⟩
        have hy : Th K H4 y := by
          have hm : y ∈ [V.str sx, .str sy, .str sz] := List.mem_of_getElem? hj
          simp only [List.mem_cons, List.not_mem_nil, or_false] at hm
          rcases hm with rfl | rfl | rfl
          · exact th_str lx ax
          · exact th_str ly ay
          · exact th_str lz az
        refine ⟨_, rfl, y, rfl, hy, fun H5 s5 => ⟨_, rfl, ?_⟩⟩
        refine iteF ?_
        exact ⟨_, rfl, D4.keep s5, s5 _ _ hp4⟩
      · rintro σ H4 ⟨x', rfl, D4, hp4⟩
        -- the odd one
        refine ⟨by show 0 ≤ sizeLine; decide, fun p1 hp1 => ⟨by show 1 ≤ sizeLine; decide, fun p2 hp2 => ⟨by show 1 ≤ sizeLine; decide, fun p3 hp3 => ?_⟩⟩⟩
        intro p4 hp4' p5 hp5
        refine ⟨upd_same, [(.inr "a", .int 1)], rfl, by decide, _, _, rfl, rfl, ⟨by decide, by decide, by decide⟩, by show 9 ≤ sizeLine; decide, fun k hk => ?_⟩
        have e1 := same_new (o := .tup []) hp1
        have e2 := same_new (o := .lst [.str "a"]) hp2
        have e3 := same_new (o := .tup [.str "a"]) hp3
        have e4 := same_new (o := .dK []) hp4'
        have e5 := same_upd (o := .dK (mergeK [] [(.inr "a", .int 1)])) (same_new (o := .dK []) hp5) hp5
        have e6 := same_new (o := .lst [.non, .int 5, .bl true, .ref p1, .ref p2, .ref p3, .ref p4, .ref p5, .int (10 ^ (30 : Int).toNat)]) hk
        have q1 := e6 _ _ (e5 _ _ (e4 _ _ (e3 _ _ (e2 _ _ (upd_same (H := H4) (a := p1) (o := .tup []))))))
        have q2 := e6 _ _ (e5 _ _ (e4 _ _ (e3 _ _ (upd_same (a := p2) (o := .lst [.str "a"])))))
        have q3 := e6 _ _ (e5 _ _ (e4 _ _ (upd_same (a := p3) (o := .tup [.str "a"]))))
        have q4 := e6 _ _ (e5 _ _ (upd_same (a := p4) (o := .dK [])))
        have q5 := e6 _ _ (upd_same (a := p5) (o := .dK (mergeK [] [(.inr "a", .int 1)])))
        have D45 := D4.keep ((((e1.trans e2).trans e3).trans e4).trans e5)
        have n1 : d ≠ p1 := D4.ne_new hp1
        have n2 : d ≠ p2 := (D4.keep e1).ne_new hp2
        have n3 : d ≠ p3 := (D4.keep (e1.trans e2)).ne_new hp3
        have n4 : d ≠ p4 := (D4.keep ((e1.trans e2).trans e3)).ne_new hp4'
        have n5 : d ≠ p5 := (D4.keep (((e1.trans e2).trans e3).trans e4)).ne_new hp5
        have nk : d ≠ k := D45.ne_new hk
        refine ⟨_, rfl, d, 9, 200 * i + 100, rfl, D45.keep e6, by omega, by decide, by decide, fun v H6 v0 v1 D6 b6 => ?_⟩
        have hk6 := b6 k _ upd_same nk.symm
        obtain ⟨y, hy, my⟩ := at_in (xs := [V.non, .int 5, .bl true, .ref p1, .ref p2, .ref p3, .ref p4, .ref p5, .int (10 ^ (30 : Int).toNat)]) v0 v1
        have ty : Th K H6 y := by
          simp only [List.mem_cons, List.not_mem_nil, or_false] at my
          rcases my with rfl | rfl | rfl | rfl | rfl | rfl | rfl | rfl | rfl
          · exact .inr ⟨(fun t e => nomatch e), "NoneType", .base .non, by decide +kernel⟩
          · exact .inr ⟨(fun t e => nomatch e), "int", .base (.int _), by decide +kernel⟩
          · exact .inr ⟨(fun t e => nomatch e), "bool", .base (.bl _), by decide +kernel⟩
          · exact .inr ⟨(fun t e => nomatch e), "tuple", .base (.tup (b6 p1 _ q1 n1.symm)), by decide +kernel⟩
          · exact .inr ⟨(fun t e => nomatch e), "list", .base (.lst (b6 p2 _ q2 n2.symm)), by decide +kernel⟩
          · exact .inr ⟨(fun t e => nomatch e), "tuple", .base (.tup (b6 p3 _ q3 n3.symm)), by decide +kernel⟩
          · exact .inr ⟨(fun t e => nomatch e), "dict", .base (.dK (b6 p4 _ q4 n4.symm)), by decide +kernel⟩
          · exact .inr ⟨(fun t e => nomatch e), "dict", .base (.dK (b6 p5 _ q5 n5.symm)), by decide +kernel⟩
          · exact .inr ⟨(fun t e => nomatch e), "int", .base (.int _), by decide +kernel⟩
        refine ⟨k, _, _, _, rfl, rfl, SqL.of hk6, hy, ?_⟩
        refine ⟨_, rfl, y, rfl, ty, fun H7 s7 => ⟨_, rfl, iteF ?_⟩⟩
        exact ⟨_, _, _, rfl, (D6.keep s7).mono (by omega)⟩
    · rintro σ H2 _
      exact q H2
end

theorem all_mk {l : PySem.W.OpenLaw} {w : World} {K : PySem.W.Frag} {h : Heap} {mg : Str → Option Value} {fa : Addr} (X : K.In h) (G : h.Ns mainGlobals mg) (hfa : mg "law" = some (.ref fa))
    {f_consists_of : Addr} {od_consists_of an_consists_of : Option Addr} {sl_consists_of : Array (Option Value)} {oc_consists_of kV_consists_of dc_consists_of pm_consists_of cd_consists_of ct_consists_of : Value}
    (n_consists_of : PySem.W.nsIn K mainGlobals "consists_of" = some (some (.ref f_consists_of)))
    (l_consists_of : K.lookup f_consists_of = some ⟨oc_consists_of, od_consists_of, .func (PySem.W.fnOf "consists_of" "consists_of" (defArgs s_consists_of) (defBody s_consists_of) (defScope s_consists_of) .none kV_consists_of dc_consists_of pm_consists_of an_consists_of cd_consists_of ct_consists_of), sl_consists_of⟩)
    (c_consists_of : PySem.W.codeIn K cd_consists_of "consists_of" = true)
    (k_consists_of : PySem.W.keepIn K (.ref f_consists_of) = true)
    {f_is_string_of : Addr} {od_is_string_of an_is_string_of : Option Addr} {sl_is_string_of : Array (Option Value)} {oc_is_string_of kV_is_string_of dc_is_string_of pm_is_string_of cd_is_string_of ct_is_string_of : Value}
    (n_is_string_of : PySem.W.nsIn K mainGlobals "is_string_of" = some (some (.ref f_is_string_of)))
    (l_is_string_of : K.lookup f_is_string_of = some ⟨oc_is_string_of, od_is_string_of, .func (PySem.W.fnOf "is_string_of" "is_string_of" (defArgs s_is_string_of) (defBody s_is_string_of) (defScope s_is_string_of) .none kV_is_string_of dc_is_string_of pm_is_string_of an_is_string_of cd_is_string_of ct_is_string_of), sl_is_string_of⟩)
    (c_is_string_of : PySem.W.codeIn K cd_is_string_of "is_string_of" = true)
    (k_is_string_of : PySem.W.keepIn K (.ref f_is_string_of) = true)
    {f_is_name : Addr} {od_is_name an_is_name : Option Addr} {sl_is_name : Array (Option Value)} {oc_is_name kV_is_name dc_is_name pm_is_name cd_is_name ct_is_name : Value}
    (n_is_name : PySem.W.nsIn K mainGlobals "is_name" = some (some (.ref f_is_name)))
    (l_is_name : K.lookup f_is_name = some ⟨oc_is_name, od_is_name, .func (PySem.W.fnOf "is_name" "is_name" (defArgs s_is_name) (defBody s_is_name) (defScope s_is_name) .none kV_is_name dc_is_name pm_is_name an_is_name cd_is_name ct_is_name), sl_is_name⟩)
    (c_is_name : PySem.W.codeIn K cd_is_name "is_name" = true)
    (k_is_name : PySem.W.keepIn K (.ref f_is_name) = true)
    {f_is_word : Addr} {od_is_word an_is_word : Option Addr} {sl_is_word : Array (Option Value)} {oc_is_word kV_is_word dc_is_word pm_is_word cd_is_word ct_is_word : Value}
    (n_is_word : PySem.W.nsIn K mainGlobals "is_word" = some (some (.ref f_is_word)))
    (l_is_word : K.lookup f_is_word = some ⟨oc_is_word, od_is_word, .func (PySem.W.fnOf "is_word" "is_word" (defArgs s_is_word) (defBody s_is_word) (defScope s_is_word) .none kV_is_word dc_is_word pm_is_word an_is_word cd_is_word ct_is_word), sl_is_word⟩)
    (c_is_word : PySem.W.codeIn K cd_is_word "is_word" = true)
    (k_is_word : PySem.W.keepIn K (.ref f_is_word) = true)
    {f_is_path : Addr} {od_is_path an_is_path : Option Addr} {sl_is_path : Array (Option Value)} {oc_is_path kV_is_path dc_is_path pm_is_path cd_is_path ct_is_path : Value}
    (n_is_path : PySem.W.nsIn K mainGlobals "is_path" = some (some (.ref f_is_path)))
    (l_is_path : K.lookup f_is_path = some ⟨oc_is_path, od_is_path, .func (PySem.W.fnOf "is_path" "is_path" (defArgs s_is_path) (defBody s_is_path) (defScope s_is_path) .none kV_is_path dc_is_path pm_is_path an_is_path cd_is_path ct_is_path), sl_is_path⟩)
    (c_is_path : PySem.W.codeIn K cd_is_path "is_path" = true)
    (k_is_path : PySem.W.keepIn K (.ref f_is_path) = true)
    {f_begin : Addr} {od_begin an_begin : Option Addr} {sl_begin : Array (Option Value)} {oc_begin kV_begin dc_begin pm_begin cd_begin ct_begin : Value}
    (n_begin : PySem.W.nsIn K mainGlobals "_law_begin" = some (some (.ref f_begin)))
    (l_begin : K.lookup f_begin = some ⟨oc_begin, od_begin, .func (PySem.W.fnOf "_law_begin" "_law_begin" (defArgs s_begin) (defBody s_begin) (defScope s_begin) .none kV_begin dc_begin pm_begin an_begin cd_begin ct_begin), sl_begin⟩)
    (c_begin : PySem.W.codeIn K cd_begin "_law_begin" = true)
    (k_begin : PySem.W.keepIn K (.ref f_begin) = true)
    {f_mixed : Addr} {od_mixed an_mixed : Option Addr} {sl_mixed : Array (Option Value)} {oc_mixed kV_mixed dc_mixed pm_mixed cd_mixed ct_mixed : Value}
    (n_mixed : PySem.W.nsIn K mainGlobals "_law_mixed" = some (some (.ref f_mixed)))
    (l_mixed : K.lookup f_mixed = some ⟨oc_mixed, od_mixed, .func (PySem.W.fnOf "_law_mixed" "_law_mixed" (defArgs s_mixed) (defBody s_mixed) (defScope s_mixed) .none kV_mixed dc_mixed pm_mixed an_mixed cd_mixed ct_mixed), sl_mixed⟩)
    (c_mixed : PySem.W.codeIn K cd_mixed "_law_mixed" = true)
    (k_mixed : PySem.W.keepIn K (.ref f_mixed) = true)
    {f_next : Addr} {od_next an_next : Option Addr} {sl_next : Array (Option Value)} {oc_next kV_next dc_next pm_next cd_next ct_next : Value}
    (n_next : PySem.W.nsIn K mainGlobals "_law_next" = some (some (.ref f_next)))
    (l_next : K.lookup f_next = some ⟨oc_next, od_next, .func (PySem.W.fnOf "_law_next" "_law_next" (defArgs s_next) (defBody s_next) (defScope s_next) .none kV_next dc_next pm_next an_next cd_next ct_next), sl_next⟩)
    (c_next : PySem.W.codeIn K cd_next "_law_next" = true)
    (k_next : PySem.W.keepIn K (.ref f_next) = true)
    {f_string : Addr} {od_string an_string : Option Addr} {sl_string : Array (Option Value)} {oc_string kV_string dc_string pm_string cd_string ct_string : Value}
    (n_string : PySem.W.nsIn K mainGlobals "_law_string" = some (some (.ref f_string)))
    (l_string : K.lookup f_string = some ⟨oc_string, od_string, .func (PySem.W.fnOf "_law_string" "_law_string" (defArgs s_string) (defBody s_string) (defScope s_string) .none kV_string dc_string pm_string an_string cd_string ct_string), sl_string⟩)
    (c_string : PySem.W.codeIn K cd_string "_law_string" = true)
    (k_string : PySem.W.keepIn K (.ref f_string) = true)
    {f_consists : Addr} {od_consists an_consists : Option Addr} {sl_consists : Array (Option Value)} {oc_consists kV_consists dc_consists pm_consists cd_consists ct_consists : Value}
    (n_consists : PySem.W.nsIn K mainGlobals "_law_consists" = some (some (.ref f_consists)))
    (l_consists : K.lookup f_consists = some ⟨oc_consists, od_consists, .func (PySem.W.fnOf "_law_consists" "_law_consists" (defArgs s_consists) (defBody s_consists) (defScope s_consists) .none kV_consists dc_consists pm_consists an_consists cd_consists ct_consists), sl_consists⟩)
    (c_consists : PySem.W.codeIn K cd_consists "_law_consists" = true)
    (k_consists : PySem.W.keepIn K (.ref f_consists) = true)
    {f_right : Addr} {od_right an_right : Option Addr} {sl_right : Array (Option Value)} {oc_right kV_right dc_right pm_right cd_right ct_right : Value}
    (n_right : PySem.W.nsIn K mainGlobals "_law_right" = some (some (.ref f_right)))
    (l_right : K.lookup f_right = some ⟨oc_right, od_right, .func (PySem.W.fnOf "_law_right" "_law_right" (defArgs s_right) (defBody s_right) (defScope s_right) .none kV_right dc_right pm_right an_right cd_right ct_right), sl_right⟩)
    (c_right : PySem.W.codeIn K cd_right "_law_right" = true)
    (k_right : PySem.W.keepIn K (.ref f_right) = true)
    {f_law : Addr} {od_law an_law : Option Addr} {sl_law : Array (Option Value)} {oc_law kV_law dc_law pm_law cd_law ct_law : Value}
    (n_law : PySem.W.nsIn K mainGlobals "law" = some (some (.ref f_law)))
    (l_law : K.lookup f_law = some ⟨oc_law, od_law, .func (PySem.W.fnOf "law" "law" (defArgs s_law) (defBody s_law) (defScope s_law) .none kV_law dc_law pm_law an_law cd_law ct_law), sl_law⟩)
    (c_law : PySem.W.codeIn K cd_law "law" = true)
    (k_law : PySem.W.keepIn K (.ref f_law) = true)
    {t_LETTERS : Tok}
    (g_LETTERS : PySem.W.nsIn K mainGlobals "LETTERS" = some (some (.str "abcdefghijklmnopqrstuvwxyz" t_LETTERS)))
    {t_DIGITS : Tok}
    (g_DIGITS : PySem.W.nsIn K mainGlobals "DIGITS" = some (some (.str "0123456789" t_DIGITS)))
    (z_all : PySem.W.nsIn K mainGlobals "all" = some none)
    (z_isinstance : PySem.W.nsIn K mainGlobals "isinstance" = some none)
    (z_len : PySem.W.nsIn K mainGlobals "len" = some none)
    (z_min : PySem.W.nsIn K mainGlobals "min" = some none)
    (z_range : PySem.W.nsIn K mainGlobals "range" = some none)
    (z_repr : PySem.W.nsIn K mainGlobals "repr" = some none)
    (z_str : PySem.W.nsIn K mainGlobals "str" = some none) :
    ∃ fd : FuncData, (∀ (s : Shared) (v : Value), BindsTo s fd ⟨[v], []⟩ [("_law_script", v)]) ∧ ∀ base : Heap, K.In base → base.Ns mainGlobals mg → FnG l.prog w K mg base 5 fa fd ["_law_script"] (spLaw K) := by
  have e0 := hfa.symm.trans (PySem.W.mg_of X G n_law)
  have e : f_law = fa := by
    cases e0
    rfl
  subst e
  have F_consists_of := fun_mk (st := s_consists_of) l_consists_of c_consists_of k_consists_of
  have B_consists_of := F_consists_of.binds (ps := P_consists_of) fun _ _ _ _ _ _ us hl => match us, hl with | [_, _], _ => rfl
  have F_is_string_of := fun_mk (st := s_is_string_of) l_is_string_of c_is_string_of k_is_string_of
  have B_is_string_of := F_is_string_of.binds (ps := P_is_string_of) fun _ _ _ _ _ _ us hl => match us, hl with | [_, _, _], _ => rfl
  have F_is_name := fun_mk (st := s_is_name) l_is_name c_is_name k_is_name
  have B_is_name := F_is_name.binds (ps := P_is_name) fun _ _ _ _ _ _ us hl => match us, hl with | [_], _ => rfl
  have KB_is_name : KB K (PySem.W.fnOf "is_name" "is_name" (defArgs s_is_name) (defBody s_is_name) (defScope s_is_name) .none kV_is_name dc_is_name pm_is_name an_is_name cd_is_name ct_is_name) P_is_name ["thing"] := ⟨fun _ ws _ hl => match ws, hl with | [_], _ => .of_eq rfl⟩
  have F_is_word := fun_mk (st := s_is_word) l_is_word c_is_word k_is_word
  have B_is_word := F_is_word.binds (ps := P_is_word) fun _ _ _ _ _ _ us hl => match us, hl with | [_], _ => rfl
  have KB_is_word : KB K (PySem.W.fnOf "is_word" "is_word" (defArgs s_is_word) (defBody s_is_word) (defScope s_is_word) .none kV_is_word dc_is_word pm_is_word an_is_word cd_is_word ct_is_word) P_is_word ["thing"] := ⟨fun _ ws _ hl => match ws, hl with | [_], _ => .of_eq rfl⟩
  have F_is_path := fun_mk (st := s_is_path) l_is_path c_is_path k_is_path
  have B_is_path := F_is_path.binds (ps := P_is_path) fun _ _ _ _ _ _ us hl => match us, hl with | [_], _ => rfl
  have KB_is_path : KB K (PySem.W.fnOf "is_path" "is_path" (defArgs s_is_path) (defBody s_is_path) (defScope s_is_path) .none kV_is_path dc_is_path pm_is_path an_is_path cd_is_path ct_is_path) P_is_path ["thing"] := ⟨fun _ ws _ hl => match ws, hl with | [_], _ => .of_eq rfl⟩
  have F_begin := fun_mk (st := s_begin) l_begin c_begin k_begin
  have B_begin := F_begin.binds (ps := P_begin) fun _ _ _ _ _ _ us hl => match us, hl with | [_], _ => rfl
  have F_mixed := fun_mk (st := s_mixed) l_mixed c_mixed k_mixed
  have B_mixed := F_mixed.binds (ps := P_mixed) fun _ _ _ _ _ _ us hl => match us, hl with | [_, _], _ => rfl
  have F_next := fun_mk (st := s_next) l_next c_next k_next
  have B_next := F_next.binds (ps := P_next) fun _ _ _ _ _ _ us hl => match us, hl with | [_, _], _ => rfl
  have F_string := fun_mk (st := s_string) l_string c_string k_string
  have B_string := F_string.binds (ps := P_string) fun _ _ _ _ _ _ us hl => match us, hl with | [_], _ => rfl
  have F_consists := fun_mk (st := s_consists) l_consists c_consists k_consists
  have B_consists := F_consists.binds (ps := P_consists) fun _ _ _ _ _ _ us hl => match us, hl with | [_, _, _], _ => rfl
  have F_right := fun_mk (st := s_right) l_right c_right k_right
  have B_right := F_right.binds (ps := P_right) fun _ _ _ _ _ _ us hl => match us, hl with | [_], _ => rfl
  have F_law := fun_mk (st := s_law) l_law c_law k_law
  have B_law := F_law.binds (ps := P_law) fun _ _ _ _ _ _ us hl => match us, hl with | [_], _ => rfl
  have T : Tex K mg { a_consists_of := f_consists_of, d_consists_of := (PySem.W.fnOf "consists_of" "consists_of" (defArgs s_consists_of) (defBody s_consists_of) (defScope s_consists_of) .none kV_consists_of dc_consists_of pm_consists_of an_consists_of cd_consists_of ct_consists_of), a_is_string_of := f_is_string_of, d_is_string_of := (PySem.W.fnOf "is_string_of" "is_string_of" (defArgs s_is_string_of) (defBody s_is_string_of) (defScope s_is_string_of) .none kV_is_string_of dc_is_string_of pm_is_string_of an_is_string_of cd_is_string_of ct_is_string_of), a_is_name := f_is_name, d_is_name := (PySem.W.fnOf "is_name" "is_name" (defArgs s_is_name) (defBody s_is_name) (defScope s_is_name) .none kV_is_name dc_is_name pm_is_name an_is_name cd_is_name ct_is_name), a_is_word := f_is_word, d_is_word := (PySem.W.fnOf "is_word" "is_word" (defArgs s_is_word) (defBody s_is_word) (defScope s_is_word) .none kV_is_word dc_is_word pm_is_word an_is_word cd_is_word ct_is_word), a_is_path := f_is_path, d_is_path := (PySem.W.fnOf "is_path" "is_path" (defArgs s_is_path) (defBody s_is_path) (defScope s_is_path) .none kV_is_path dc_is_path pm_is_path an_is_path cd_is_path ct_is_path), a_begin := f_begin, d_begin := (PySem.W.fnOf "_law_begin" "_law_begin" (defArgs s_begin) (defBody s_begin) (defScope s_begin) .none kV_begin dc_begin pm_begin an_begin cd_begin ct_begin), a_mixed := f_mixed, d_mixed := (PySem.W.fnOf "_law_mixed" "_law_mixed" (defArgs s_mixed) (defBody s_mixed) (defScope s_mixed) .none kV_mixed dc_mixed pm_mixed an_mixed cd_mixed ct_mixed), a_next := f_next, d_next := (PySem.W.fnOf "_law_next" "_law_next" (defArgs s_next) (defBody s_next) (defScope s_next) .none kV_next dc_next pm_next an_next cd_next ct_next), a_string := f_string, d_string := (PySem.W.fnOf "_law_string" "_law_string" (defArgs s_string) (defBody s_string) (defScope s_string) .none kV_string dc_string pm_string an_string cd_string ct_string), a_consists := f_consists, d_consists := (PySem.W.fnOf "_law_consists" "_law_consists" (defArgs s_consists) (defBody s_consists) (defScope s_consists) .none kV_consists dc_consists pm_consists an_consists cd_consists ct_consists), a_right := f_right, d_right := (PySem.W.fnOf "_law_right" "_law_right" (defArgs s_right) (defBody s_right) (defScope s_right) .none kV_right dc_right pm_right an_right cd_right ct_right), a_law := f_law, d_law := (PySem.W.fnOf "law" "law" (defArgs s_law) (defBody s_law) (defScope s_law) .none kV_law dc_law pm_law an_law cd_law ct_law), t_LETTERS := t_LETTERS, t_DIGITS := t_DIGITS } := { consists_of_F := F_consists_of, consists_of_g := PySem.W.mg_of X G n_consists_of, consists_of_b := B_consists_of, is_string_of_F := F_is_string_of, is_string_of_g := PySem.W.mg_of X G n_is_string_of, is_string_of_b := B_is_string_of, is_name_F := F_is_name, is_name_g := PySem.W.mg_of X G n_is_name, is_name_b := B_is_name, is_name_kb := KB_is_name, is_word_F := F_is_word, is_word_g := PySem.W.mg_of X G n_is_word, is_word_b := B_is_word, is_word_kb := KB_is_word, is_path_F := F_is_path, is_path_g := PySem.W.mg_of X G n_is_path, is_path_b := B_is_path, is_path_kb := KB_is_path, begin_F := F_begin, begin_g := PySem.W.mg_of X G n_begin, begin_b := B_begin, mixed_F := F_mixed, mixed_g := PySem.W.mg_of X G n_mixed, mixed_b := B_mixed, next_F := F_next, next_g := PySem.W.mg_of X G n_next, next_b := B_next, string_F := F_string, string_g := PySem.W.mg_of X G n_string, string_b := B_string, consists_F := F_consists, consists_g := PySem.W.mg_of X G n_consists, consists_b := B_consists, right_F := F_right, right_g := PySem.W.mg_of X G n_right, right_b := B_right, law_F := F_law, law_g := PySem.W.mg_of X G n_law, law_b := B_law, c_LETTERS := PySem.W.mg_of X G g_LETTERS, c_DIGITS := PySem.W.mg_of X G g_DIGITS, b_all := PySem.W.mg_none_of X G z_all, b_isinstance := PySem.W.mg_none_of X G z_isinstance, b_len := PySem.W.mg_none_of X G z_len, b_min := PySem.W.mg_none_of X G z_min, b_range := PySem.W.mg_none_of X G z_range, b_repr := PySem.W.mg_none_of X G z_repr, b_str := PySem.W.mg_none_of X G z_str }
  exact ⟨_, fun s v => .of_eq rfl, fun base _ _ => ok_law T⟩
end Pk
open PySem PySem.W PyProof.Rows
set_option maxRecDepth 100000 in
set_option maxHeartbeats 0 in
theorem PySem.Challenge.cw_parcelindex_k02_names_words_and_paths_holds : PySem.Challenge.rw_parcelindex_k02_names_words_and_paths.Holds := by
  w_on; o_law; k_head; (case hw => w_witness2)
  k_fill
  refine Pk.walkG (l := PySem.Challenge.rw_parcelindex_k02_names_words_and_paths) (k := 5) (x := "_law_script") (sp := Pk.spLaw) rfl rfl ⟨rfl, by decide, by decide⟩ (fun w h Y => PySem.W.kIn_of Y) ?F (fun K H a ns hl hS => ⟨a, ns, rfl, hS, hl, fun _ => rfl⟩)
  case F =>
    intro w mg fa h KX G hmg
    refine' Pk.all_mk KX G hmg ?n_consists_of ?l_consists_of ?c_consists_of ?k_consists_of ?n_is_string_of ?l_is_string_of ?c_is_string_of ?k_is_string_of ?n_is_name ?l_is_name ?c_is_name ?k_is_name ?n_is_word ?l_is_word ?c_is_word ?k_is_word ?n_is_path ?l_is_path ?c_is_path ?k_is_path ?n_begin ?l_begin ?c_begin ?k_begin ?n_mixed ?l_mixed ?c_mixed ?k_mixed ?n_next ?l_next ?c_next ?k_next ?n_string ?l_string ?c_string ?k_string ?n_consists ?l_consists ?c_consists ?k_consists ?n_right ?l_right ?c_right ?k_right ?n_law ?l_law ?c_law ?k_law ?g_LETTERS ?g_DIGITS ?z_all ?z_isinstance ?z_len ?z_min ?z_range ?z_repr ?z_str
    (case n_consists_of => k_is)
    (case l_consists_of => k_is)
    (case c_consists_of => k_is)
    (case k_consists_of => k_is)
    (case n_is_string_of => k_is)
    (case l_is_string_of => k_is)
    (case c_is_string_of => k_is)
    (case k_is_string_of => k_is)
    (case n_is_name => k_is)
    (case l_is_name => k_is)
    (case c_is_name => k_is)
    (case k_is_name => k_is)
    (case n_is_word => k_is)
    (case l_is_word => k_is)
    (case c_is_word => k_is)
    (case k_is_word => k_is)
    (case n_is_path => k_is)
    (case l_is_path => k_is)
    (case c_is_path => k_is)
    (case k_is_path => k_is)
    (case n_begin => k_is)
    (case l_begin => k_is)
    (case c_begin => k_is)
    (case k_begin => k_is)
    (case n_mixed => k_is)
    (case l_mixed => k_is)
    (case c_mixed => k_is)
    (case k_mixed => k_is)
    (case n_next => k_is)
    (case l_next => k_is)
    (case c_next => k_is)
    (case k_next => k_is)
    (case n_string => k_is)
    (case l_string => k_is)
    (case c_string => k_is)
    (case k_string => k_is)
    (case n_consists => k_is)
    (case l_consists => k_is)
    (case c_consists => k_is)
    (case k_consists => k_is)
    (case n_right => k_is)
    (case l_right => k_is)
    (case c_right => k_is)
    (case k_right => k_is)
    (case n_law => k_is)
    (case l_law => k_is)
    (case c_law => k_is)
    (case k_law => k_is)
    (case g_LETTERS => k_is)
    (case g_DIGITS => k_is)
    (case z_all => k_is)
    (case z_isinstance => k_is)
    (case z_len => k_is)
    (case z_min => k_is)
    (case z_range => k_is)
    (case z_repr => k_is)
    (case z_str => k_is)
