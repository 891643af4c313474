import PyProof.Rows.All
import Wide.All
import OpenK.AllK
import Wide.FinOn
import PyProof.ReprRoads
import HandS.ForMost
import HandS.ForExc
import HandS.IsInst
import HandS.Walk
import HandS.Flow
import HandS.RaiseMore

import HandS.ClsMeth
import HandS.Property
import HandS.SlotsOwn
import HandS.FStr
import HandS.TupAny
import HandS.Codes
import KE.KCallOwn
import KE.GoesMore
import KE.GoesEnum
import KE.DatumOrd
import HandS.SortInts
import HandS.Defaults

import HandS.Style
import PySem.Challenge.RW_parcelindex_k04_whole_ranks_and_order
set_option Elab.async false
set_option maxRecDepth 100000
set_option maxHeartbeats 4000000

/-! ## Calls with the stack's repr marks known to be none: a def's promise, its body's rule, calls, the end -/
namespace Pk
open PySem PySem.Spec PyProof.Rows L2

/-- a def keeps its promise wherever no repr runs around it -/
structure FnG (P : Program) (w : World) (K : PySem.W.Frag) (mg : Str → Option Value) (base : Heap) (k : Nat) (f : Addr) (fd : FuncData) (ps : List Str) (sp : Sp) : Prop where
  lenG : ∀ vs H Q E, sp vs H Q E → vs.length = ps.length
  runG : ∀ (A : Around) (outer : List Env) (s : Shared) (H : Hp) (args : Args) (us : List Value) (vs : List V) (Q : VK),
    A.guards = some [] → Room k A → Env0 P w K mg base A outer s H →
    BindsTo s fd args (ps.zip us) → Vals vs us → sp vs H Q E0 →
    codeAny (model P w) A (.call (.ref f) args) (CR CX0 outer P w H s Q E0) s

section
variable {P : Program} {w : World} {K : PySem.W.Frag} {mg : Str → Option Value} {base : Heap}
theorem FnG.of {k : Nat} {f : Addr} {fd : FuncData} {ps : List Str} {sp : Sp} (F : FnOk P w K mg base CX0 k f fd ps sp) : FnG P w K mg base k f fd ps sp :=
  ⟨F.len, fun A outer s H args us vs Q _ h1 h2 h3 h4 h5 => F.run A outer s H args us vs Q E0 h1 h2 h3 h4 h5⟩

/-- the rule for a def's body, with the marks known -/
theorem fnG_of {x qual : Str} {st : Stmt} {f : Addr} {fd : FuncData} {N ps : List Str} {k : Nat} {sp : Sp} (F : Fun K x qual st f fd)
    (S : FnScope N ps (defScope st)) (len : ∀ vs H Q E, sp vs H Q E → vs.length = ps.length)
    (hbody : ∀ (cdv : Value) (A : Around) (outer : List Env) (s : Shared) (H : Hp) (vs : List V) (Q : VK),
      A.guards = some [] → Room k (A.deeper (envOfC qual (defScope st) s.heap.objs.size f cdv)) → sp vs H Q E0 →
      ∃ t, PSs (cxOf CX0 P w K mg base N qual (defScope st) f cdv A outer s H E0).nox (defBody st) t ∧
        t { nx := fun _ H' => Q .non H', rt := Q } (start N vs) H) :
    FnG P w K mg base (k + 1) f fd ps sp := by
  obtain ⟨oc, od, kV, doc, pm, an, cdv, ct, osl, rfl, lk, hcd⟩ := F.ex
  refine ⟨len, ?_⟩
  intro A outer s H args us vs Q hg hr e0 hb r hsp
  have hlen := len _ _ _ _ hsp
  have inK : K.In s.heap := e0.mod.kin.keeps (fun b o e => (e0.bs b o e).1)
  have nolim : s.heap.NoLimit := e0.mod.nolimit.keeps (fun b o e => (e0.bs b o e).1)
  have hk : ∀ y ∈ ps.zip us, (defScope st).names.lookup y.1 = some .local ∨ ((defScope st).names.lookup y.1 = some .cell ∧
      ((cellsFrom (s.heap.objs.size + 1) (defScope st).names []).lookup y.1).isSome = true) := by
    rintro ⟨n, v⟩ hy
    rcases S.par n (List.of_mem_zip hy).1 with q | q
    · exact Or.inl q
    · exact Or.inr ⟨q, PySem.W.cellsFrom_some _ _ _ (Or.inl q)⟩
  refine codeAny_call_function hr.depth (inK _ _ lk) rfl S.co S.gen rfl (PySem.W.codeRec_of inK hcd) (hb _ _ _ _ ?_)
  refine wpAny_newFunctionEnv_cells S.kind hk ?_
  intro env he s1 x
  subst he
  refine ⟨nolim.keeps x.toInCall.keep, codeAny_func ?_⟩
  obtain ⟨t, ht0, hq⟩ := hbody cdv A outer s H vs Q hg (hr.deeper _) hsp
  have ht := ht0.nox
  have J0 : Inv (cxOf CX0 P w K mg base N qual (defScope st) f cdv A outer s H E0) [] (start N vs) H s1 := inv_start S hr.hd e0 hlen r x
  have fin : ∀ {σ' : L2.St} {H' : Hp} {s' : Shared} {v : V} {u : Value},
      Inv (cxOf CX0 P w K mg base N qual (defScope st) f cdv A outer s H E0) [] σ' H' s' → RelV v u → Q v H' → CE outer P w H s Q u s' :=
    fun {σ' H' s' v u} J rv q => ⟨v, H', J.os, J.bare, J.base, J.hok, rv, q⟩
  refine wpAny_mono (ht.run [] s1 (start N vs) H _ J0 hq) ?_ (fun e s' hs => hs)
  rintro (_ | _ | _ | u) s' hs
  · obtain ⟨σ', H', J, q⟩ := hs
    exact fin (v := V.non) (u := Value.none) J rfl q
  · obtain ⟨_, _, _, q⟩ := hs
    exact q.elim
  · obtain ⟨_, _, _, q⟩ := hs
    exact q.elim
  · obtain ⟨v, σ', H', J, rv, q⟩ := hs
    exact fin J rv q
end

section
variable {X : Cx} {k : Nat} {f : Addr} {fd : FuncData} {ps ks : List Str} {sp : Sp} {x : Str} {p pos : Pos} {e : Expr} {es : List Expr} {t tk : TA} {kws : List Keyword}
theorem run_g {pins : List (Addr × Obj)} {σ : L2.St} {H : Hp} {s : Shared} {Q : VK} {args : Args} {us : List Value} {vs : List V}
    (F : FnG X.prog X.w X.K X.mg X.base k f fd ps sp) (hg : X.A.guards = some []) (hr : Room k X.A)
    (hb : BindsTo s fd args (ps.zip us)) (I : Inv X pins σ H s) (r : Vals vs us) (h : sp vs H Q E0) :
    codeAny (model X.prog X.w) X.A (.call (.ref f) args) (fun r s' => match r with | .ok (.ret v) => EP X pins σ Q v s' | .ok _ => False | .error e => X.xe e s') s := by
  refine codeAny_mono (F.runG X.A X.stack s H args us vs Q hg hr I.env0 hb r h) ?_
  rintro (e | fl) s' hq
  · exact (show False from hq).elim
  · cases fl with
    | ret u => exact I.after hq
    | next => exact (show False from hq).elim
    | brk => exact (show False from hq).elim
    | cont => exact (show False from hq).elim
/-- f(..), the parameters all given by position -/
theorem pe_callG (F : FnG X.prog X.w X.K X.mg X.base k f fd ps sp) (hgu : X.A.guards = some []) (hr : Room k X.A) (hg : Gl X x) (hm : X.mg x = some (.ref f))
    (hk : PySem.W.keepIn X.K (.ref f) = true) (hb : Binds X.K fd ps []) (ha : PA X (e :: es) t) (hdb : (x == ("__debug__" : Str)) = false := by decide)
    (he : starEach (e :: es) X.env = (false, eval e X.env) :: starEach es X.env := by rfl)
    (hpl : (backTo pos (starEach es X.env)).any (·.1) = false := by rfl) :
    PE X (.Call (.Name x p) (e :: es) [] pos) (tCall sp [] E0 t) := by
  constructor
  intro pins s σ H Q I h
  refine wpAny_Call_Name_kw (ld_glob I hg hm ?_ hdb)
  refine PySem.W.callWith_K (h₀ := X.base) I.ok.mod.kin hk (thn (ha.run pos pins s σ H _ I h) ?_) he hpl
  intro us s1 ⟨vs, H1, I1, r, q⟩
  have q' : sp vs H1 Q E0 := by
    have q0 : sp (vs ++ []) H1 Q E0 := q
    rw [List.append_nil] at q0
    exact q0
  have hl : (us ++ []).length = ps.length := by rw [List.append_nil, ← r.length]; exact F.lenG _ _ _ _ q'
  refine ⟨I1.kIn, wpAny_call (run_g F hgu hr ?_ I1 r q')⟩
  have hb1 := hb s1 us I1.kIn hl
  rw [List.append_nil] at hb1
  exact hb1
theorem pe_callG0 (F : FnG X.prog X.w X.K X.mg X.base k f fd ps sp) (hgu : X.A.guards = some []) (hr : Room k X.A) (hg : Gl X x) (hm : X.mg x = some (.ref f))
    (hk : PySem.W.keepIn X.K (.ref f) = true) (hb : Binds X.K fd ps []) (hdb : (x == ("__debug__" : Str)) = false := by decide) :
    PE X (.Call (.Name x p) [] [] pos) (tCall sp [] E0 tNil) := by
  constructor
  intro pins s σ H Q I h
  refine wpAny_Call_Name_kw (ld_glob I hg hm ?_ hdb)
  refine PySem.W.callWith_K0 I.kIn hk ?_
  have q' : sp [] H Q E0 := h
  have hl : (([] : List Value) ++ []).length = ps.length := by rw [List.append_nil]; exact F.lenG _ _ _ _ q'
  exact wpAny_call (run_g F hgu hr (hb s [] I.kIn hl) I .nil q')
/-- how keywords alone bind: the values are put in the parameters' order by pm -/
structure KB (K : PySem.W.Frag) (fd : FuncData) (ps ks : List Str) : Prop where
  toK : ∀ (s : Shared) (ws : List Value), K.In s.heap → ws.length = ps.length → BindsTo s fd ⟨[], ks.zip ws⟩ (ps.zip ws)
/-- f(k = v, ..), the keywords in the parameters' order -/
theorem pe_kwG (F : FnG X.prog X.w X.K X.mg X.base k f fd ps sp) (hgu : X.A.guards = some []) (hr : Room k X.A) (hg : Gl X x) (hm : X.mg x = some (.ref f))
    (hk : PySem.W.keepIn X.K (.ref f) = true) (hb : KB X.K fd ps ks) (hkw : PK X kws tk) (hall : (backToKw pos (keywordEach kws X.env)).all (·.1.isSome) = true := by rfl)
    (hks : (backToKw pos (keywordEach kws X.env)).filterMap (·.1) = ks := by rfl) (hdb : (x == ("__debug__" : Str)) = false := by decide)
    (hpl : ((backTo pos (starEach [] X.env)).any (·.1) || (backToKw pos (keywordEach kws X.env)).any (·.1.isNone)) = false := by rfl) :
    PE X (.Call (.Name x p) [] kws pos) (tCall sp [] E0 tk) := by
  constructor
  intro pins s σ H Q I h
  refine wpAny_Call_Name_kw (ld_glob I hg hm ?_ hdb)
  refine PySem.W.callWith_KW0 (h₀ := X.base) I.ok.mod.kin hk hall (thn (hkw.run pos pins s σ H _ I h) ?_) hpl
  intro ws s1 ⟨zs, H1, I1, r, q⟩
  have q' : sp zs H1 Q E0 := by
    have q0 : sp (zs ++ []) H1 Q E0 := q
    rw [List.append_nil] at q0
    exact q0
  rw [hks]
  exact ⟨I1.kIn, wpAny_call (run_g F hgu hr (hb.toK s1 ws I1.kIn (by rw [← r.length]; exact F.lenG _ _ _ _ q')) I1 r q')⟩
end

/-! ### repr of data -/
section
variable {X : Cx}
def rRepr (K : PySem.W.Frag) : List V → Hp → VK → Prop := fun xs H Q => ∃ x d, xs = [x] ∧ Dp K H x d ∧ d.showable = true ∧ d.hasDict = false ∧ d.depth ≤ 60 ∧ d.shown.length ≤ sizeLine ∧ Q (.str d.shown) H
theorem call_repr (hgu : X.A.guards = some []) (hu : X.A.units + 64 < cLine) : CallR X (.builtin "repr") (rRepr X.K) := by
  intro pins s σ H xs us Q I r h
  obtain ⟨x, d, rfl, hd, hs, hnd, hdp, hz, q⟩ := h
  obtain ⟨u, rfl, rx⟩ := vals1 r
  have hsm : ∀ as : List Addr, d.hasDict = true → sysModules ∉ as := fun as e => by
    rw [hnd] at e
    cases e
  obtain ⟨as, rd⟩ := Dp.reads I d x u hd rx
  cases hd with
  | non =>
    obtain rfl : u = Value.none := rx
    exact PySem.P.repr_of_none ⟨.str _, H, I.tok _, ⟨_, rfl⟩, q⟩
  | bl b =>
    obtain rfl : u = Value.bool b := rx
    exact PySem.P.repr_of_bool ⟨.str _, H, I.tok _, ⟨_, rfl⟩, by simpa only [PyData.shown] using q⟩
  | int i =>
    obtain ⟨t, rfl⟩ := rx
    exact PySem.P.repr_of_int (by simpa [PyData.showable] using hs) ⟨.str _, H, I.tok _, ⟨_, rfl⟩, by simpa only [PyData.shown] using q⟩
  | str y =>
    obtain ⟨t, rfl⟩ := rx
    exact PySem.P.repr_of_str ⟨.str _, H, I.tok _, ⟨_, rfl⟩, by simpa only [PyData.shown] using q⟩ (by simpa only [PyData.shown] using hz)
  | lst =>
    rename_i a _ _ _ _
    obtain rfl : u = Value.ref a := rx
    exact repr_of_reads' (h₀ := s.heap) rd hs (hsm as) hgu (by omega) (fun _ _ e => e) (fun h' v tk hk => ⟨.str _, H, I.kept hk, ⟨v, rfl⟩, q⟩) hz
  | tup =>
    rename_i a _ _ _ _
    obtain rfl : u = Value.ref a := rx
    exact repr_of_reads' (h₀ := s.heap) rd hs (hsm as) hgu (by omega) (fun _ _ e => e) (fun h' v tk hk => ⟨.str _, H, I.kept hk, ⟨v, rfl⟩, q⟩) hz
end

/-! ### the script + a list -/
/-- a list that stands with no dict and no slots of its own -/
def Bare (K : PySem.W.Frag) (H : Hp) (a : Addr) (xs : List V) : Prop :=
  (∃ (us : List Value) (n : Nat), H a = some (.frz { cls := .type "list", data := .seq us.toArray n } (.lst xs))) ∨
  (∃ (us : List Value) (n : Nat), K.lookup a = some { cls := .type "list", data := .seq us.toArray n } ∧ Vals xs us)
theorem Bare.seq {K : PySem.W.Frag} {H : Hp} {a : Addr} {xs : List V} (hz : xs.length ≤ sizeLine) (h : Bare K H a xs) : SqL K H a xs := by
  rcases h with ⟨us, n, e⟩ | ⟨us, n, e, r⟩
  · exact .inl (.inr ⟨_, e⟩)
  · refine .inr ⟨_, us.toArray, n, e, rfl, rfl, rfl, ?_, by simpa using r⟩
    rw [List.size_toArray, ← r.length]
    exact hz
theorem Bare.keep {K : PySem.W.Frag} {H H' : Hp} {a : Addr} {xs : List V} (h : Bare K H a xs) (e : Same H H') : Bare K H' a xs := by
  rcases h with ⟨us, n, q⟩ | h
  · exact .inl ⟨us, n, e _ _ q⟩
  · exact .inr h
section
variable {X : Cx}
def rCatS (K : PySem.W.Frag) : R2 := fun x y H Q => ∃ l b xs zs, x = .ref l ∧ y = .ref b ∧ Bare K H l xs ∧ H b = some (.lst zs) ∧ xs.length + zs.length ≤ sizeLine ∧
  ∀ p, H p = none → Q (.ref p) (upd H p (.lst (xs ++ zs)))
theorem op_catS : OpR X (binaryOp .Add) (rCatS X.K) := by
  intro pins s σ H x y v u Q I rx ry h
  obtain ⟨l, b, xs, zs, rfl, rfl, hl, hb, hz, q⟩ := h
  obtain rfl : v = Value.ref l := rx
  obtain rfl : u = Value.ref b := ry
  obtain ⟨z2, its2, n2, r2, hl2, e2⟩ := I.lstM hb
  have hfin : ∀ (its : List Value) (n : Nat), Vals xs its → s.heap.get? l = some { cls := .type "list", data := .seq its.toArray n } →
      wpAny (model X.prog X.w) X.A (binaryOp .Add (.ref l) (.ref b)) (EP X pins σ Q) X.xe s := by
    intro its n r e
    have hln := r.length
    refine PySem.P.add_list e e2 ?_ (by rw [List.size_toArray, List.size_toArray]; omega)
    rw [show its.toArray ++ its2.toArray = (its ++ its2).toArray by simp]
    exact ⟨.ref _, _, I.lnew (t' := s.toks) (r.append r2) (by rw [List.length_append]; exact hz), rfl, q _ I.fresh⟩
  rcases hl with ⟨us, n, e⟩ | ⟨us, n, e, r⟩
  · obtain ⟨e1, _, its, m, r, e3⟩ := I.hok l _ e
    rw [e1] at e3
    cases e3
    exact hfin _ _ r e1
  · exact hfin us n r (I.kIn l _ e)
end

/-! ### the end -/
/-- the law's own head, with the marks known and the script told to be bare -/
theorem enterG {P : Program} {w : World} {K : PySem.W.Frag} {mg mb : Str → Option Value} {k : Nat} {fa a : Addr} {fd : FuncData} {x : Str} {sp : Sp} {s₁ : Shared} {vs : List Value} {ns : List Int}
    (KX : K.In s₁.heap) (hns : s₁.heap.Ns mainGlobals mg) (hb : s₁.heap.Ns builtinsNs mb) (hbb : ∀ x : Str, x ≠ "__name__" → mb x = bootBuiltins x)
    (hlim : s₁.heap.NoLimit) (hg : s₁.gens = #[]) (ha : s₁.heap.get? a = some { cls := .type "list", data := .seq vs.toArray })
    (hi : IntsAre vs ns) (hl : ns.length ≤ sizeLine) (hr : Room k callerA)
    (F : ∀ base : Heap, K.In base → base.Ns mainGlobals mg → FnG P w K mg base k fa fd [x] sp)
    (hbind : ∀ (s : Shared) (u : Value), BindsTo s fd ⟨[u], []⟩ [(x, u)])
    (hsp : ∀ H : Hp, Bare K H a (ns.map V.int) → sp [.ref a] H (fun v _ => v = .bl true) E0) :
    codeAny (model P w) callerA (.call (.ref fa) ⟨[.ref a], []⟩)
      (fun r s' => r = .ok (.ret (.bool true)) ∧ OldK s₁.heap s'.heap ∧ s'.os = s₁.os ∧ AllBare s'.gens) s₁ := by
  have rv := vals_ints hi
  have nV := hi.length
  have core : ∀ H : Hp, Only H → Bare K H a (ns.map V.int) → HOk P w H s₁.heap → (∀ b, H b ≠ none → b = a) → (H a ≠ none → K.lookup a = none) →
      codeAny (model P w) callerA (.call (.ref fa) ⟨[.ref a], []⟩)
        (fun r s' => r = .ok (.ret (.bool true)) ∧ OldK s₁.heap s'.heap ∧ s'.os = s₁.os ∧ AllBare s'.gens) s₁ := by
    intro H hO hS hok hA hK
    have only_a : ∀ {b : Addr} {u : HO}, H b = some u → b = a := fun {b u} q => hA b (by rw [q]; simp)
    have un : ∀ {b : Addr} {o : Obj} {es : Array DictEntry} {ep : Nat}, s₁.heap.get? b = some o → o.data = .dict es ep → H b = none := by
      intro b o es ep e d
      cases q : H b with
      | none => rfl
      | some u =>
        have e' := only_a q
        rw [e', ha] at e
        cases e
        exact nomatch (show Data.seq vs.toArray _ = Data.dict es ep from d)
    have nsB : ∀ {b : Addr} {m : Str → Option Value}, s₁.heap.Ns b m → (hidT s₁.heap H).Ns b m :=
      fun {b m} ⟨o, es, ep, e, d, r⟩ => ⟨o, es, ep, hidT_get e (un e d), d, r⟩
    have inB : K.In (hidT s₁.heap H) := by
      intro b o e
      refine hidT_get (KX b o e) ?_
      cases q : H b with
      | none => rfl
      | some u =>
        have e' := only_a q
        rw [e', hK (by rw [← e', q]; simp)] at e
        cases e
    have md : Mod K mg (hidT s₁.heap H) := ⟨inB, nsB hns, ⟨mb, nsB hb, hbb⟩, let ⟨mc, h1, h2⟩ := hlim; ⟨mc, nsB h1, h2⟩⟩
    have e0 : Env0 P w K mg (hidT s₁.heap H) callerA [] s₁ H :=
      ⟨rfl, md, fun b o e => of_hidT e, Nat.le_of_eq (hidT_size _ _), trivial, fun b z => absurd (show b ∈ ([] : List Addr) from z) (by simp), hok, .of_eq hg⟩
    refine codeAny_mono ((F _ inB (nsB hns)).runG callerA [] s₁ H ⟨[.ref a], []⟩ [.ref a] [.ref a] _ rfl hr e0 (hbind s₁ (.ref a)) (.cons rfl .nil) (hsp H hS)) ?_
    rintro (e | fl) s' h
    · exact (show False from h).elim
    · cases fl with
      | next => exact (show False from h).elim
      | brk => exact (show False from h).elim
      | cont => exact (show False from h).elim
      | ret u =>
        obtain ⟨v, H', os, bare, uu, hok', r', q⟩ := h
        obtain rfl : v = .bl true := q
        obtain rfl : u = Value.bool true := r'
        refine ⟨rfl, OldK.of_keep ?_, os, bare⟩
        intro b o e
        cases q : H b with
        | none => exact uu.keep b o e q (fun z => absurd (show b ∈ ([] : List Addr) from z) (by simp)) (by simp)
        | some u =>
          rcases hO b with z | ⟨ob, xs, z⟩
          · rw [q] at z
            cases z
          · obtain ⟨e1, _⟩ := hok b _ z
            obtain ⟨e2, _⟩ := hok' b _ (uu.frzs b ob _ z)
            rw [e] at e1
            cases e1
            exact e2
  cases hk : K.lookup a with
  | some o =>
    have e := KX a o hk
    rw [ha] at e
    cases e
    exact core (fun _ => none) (fun _ => .inl rfl) (.inr ⟨vs, 0, hk, rv⟩) (fun b u z => nomatch (show (none : Option HO) = some u from z)) (fun b z => absurd rfl z) (fun z => absurd rfl z)
  | none =>
    have hat : ∀ b u, (if b = a then some (HO.frz { cls := .type "list", data := .seq vs.toArray } (.lst (ns.map V.int))) else none) = some u →
        b = a ∧ u = HO.frz { cls := .type "list", data := .seq vs.toArray } (.lst (ns.map V.int)) := by
      intro b u z
      by_cases hb : b = a
      · rw [if_pos hb] at z
        exact ⟨hb, (Option.some.inj z).symm⟩
      · rw [if_neg hb] at z
        cases z
    refine core (fun b => if b = a then some (.frz { cls := .type "list", data := .seq vs.toArray } (.lst (ns.map V.int))) else none) ?_ (.inl ⟨vs, 0, if_pos rfl⟩) ?_ ?_ (fun _ => hk)
    · intro b
      by_cases hb : b = a
      · exact .inr ⟨_, _, if_pos hb⟩
      · exact .inl (if_neg hb)
    · intro b u z
      obtain ⟨rfl, rfl⟩ := hat b u z
      exact ⟨ha, by rw [List.length_map]; exact hl, vs, _, rv, ha⟩
    · intro b z
      cases q : (if b = a then some (HO.frz { cls := .type "list", data := .seq vs.toArray } (.lst (ns.map V.int))) else none) with
      | none => exact absurd q z
      | some u => exact (hat b u q).1

/-- what the last theorem takes -/
theorem walkG {l : PySem.W.OpenLaw} {k : Nat} {q : Program} {loose : List Str} {XP : (Str → Option Value) → Heap → Prop} {YP : World → Heap → Prop} {d : DefRec} {K : Params → PySem.W.Frag} {sp : PySem.W.Frag → Sp} {x : Str}
    (hn : l.most = some 63) (hdf : d.params.defaults = []) (hr : Room k callerA) (hY : ∀ (w : World) (h : Heap), YP w h → (K w.params).In h)
    (F : ∀ (w : World) (mg : Str → Option Value) (fa : Addr) (h : Heap), (K w.params).In h → h.Ns mainGlobals mg → mg d.name = some (.ref fa) →
      ∃ fd : FuncData, (∀ (s : Shared) (u : Value), BindsTo s fd ⟨[u], []⟩ [(x, u)]) ∧
        ∀ base : Heap, (K w.params).In base → base.Ns mainGlobals mg → FnG l.prog w (K w.params) mg base k fa fd [x] (sp (K w.params)))
    (hsp : ∀ (K : PySem.W.Frag) (H : Hp) (a : Addr) (ns : List Int), ns.length ≤ 63 → Bare K H a (ns.map V.int) → sp K [.ref a] H (fun v _ => v = .bl true) E0) :
    PySem.W.WalkO q loose XP YP l.row.toRowW d [] (fun f vs => PySem.call f vs) := by
  refine Att.attach_call hn hdf ?_
  intro w s₀ s₁ mg mb fa o pm cd doc a vs ns G Y ho hd hcd hmg hobj hints hlen hg
  have KX := hY w _ Y
  obtain ⟨fd, hb, hF⟩ := F w mg fa _ KX G.T.g hmg
  exact enterG KX G.T.g G.T.b G.T.builtins G.T.nolimit hg hobj hints (Nat.le_trans hlen (by decide)) hr hF hb (fun H hS => hsp (K w.params) H a ns hlen hS)
end Pk

/-! ## Comprehensions whose element has a value that the heap does not change -/
namespace Pk
open PySem PySem.Spec PyProof.Rows L2
theorem posI {j : Int} (h : decide (0 < j) = true) : 0 < j := of_decide_eq_true h
theorem one_more {α : Type} {xs : List α} {i : Nat} {a : α} (h : xs[i]? = some a) : xs.take (i + 1) = xs.take i ++ [a] := by
  rw [List.take_add_one, h]
  rfl
theorem same_upd {H1 H : Hp} {D : Addr} {o : HO} (s : Same H1 H) (hD : H1 D = none) : Same H1 (upd H D o) := fun b u e => by
  rw [upd_ne (ne_of_none e hD)]
  exact s b u e
theorem same_new {H : Hp} {p : Addr} {o : HO} (h : H p = none) : Same H (upd H p o) := same_upd (Same.refl H) h
theorem lc_map {α : Type} {J : It} {n : Nat} {G : Hp → Prop} {Y : Nat → Hp → V → Hp → Prop} (w : Walk J n G Y) (xs : List α) (emb : α → V) (hn : n = xs.length)
    (hY : ∀ i H x H', Y i H x H' → H' = H ∧ ∃ a, xs[i]? = some a ∧ x = emb a)
    {g : TG} {tt : TT} {te : TE} {vs : List Nat} {σ : L2.St} {H1 : Hp} {D : Addr} {Qd : Hp → Prop} (p : α → Bool) (f : α → V) (hD : H1 D = none) (hz : n < sizeLine) (hG : ∀ H, Same H1 H → G H)
    (hs : ∀ a, a ∈ xs → ∀ (H : Hp) (R : VK) (S : Hp → Prop), Same H1 H → (p a = true → ∀ H', Same H H' → R (f a) H') → (p a = false → ∀ H', Same H H' → S H') →
      g (emb a) (wipe σ vs) H fun σ2 H2 => wipe σ2 vs = wipe σ vs ∧ tt σ2 H2 fun b H3 => if b = true then te σ2 H3 R else S H3)
    (hd : ∀ H, Same H1 H → H D = some (.lst ((xs.filter p).map f)) → Qd H) :
    ∃ W : Nat → Nat → Hp → Prop, (∃ m, W 0 m (upd H1 D (.lst []))) ∧ ∀ i m H, W i m H →
      (J.stop i H ∧ Qd H) ∨ (J.go i H ∧ ∃ Nx : Hp → Prop, (∀ H', Nx H' → ∃ m', m' < m ∧ W (i + 1) m' H') ∧
        ∀ x H', J.yld i H x H' → g x (wipe σ vs) H' fun σ2 H2 => wipe σ2 vs = wipe σ vs ∧ tt σ2 H2 fun b H3 =>
          if b = true then te σ2 H3 fun y H4 => ∃ acc, H4 D = some (.lst acc) ∧ acc.length < sizeLine ∧ Nx (upd H4 D (.lst (acc ++ [y]))) else Nx H3) := by
  refine lc_it w (fun i H => Same H1 H ∧ H D = some (.lst (((xs.take i).filter p).map f))) ⟨same_new hD, by rw [upd_same]; rfl⟩ (fun i H _ h => hG H h.1) ?_ ?_
  · rintro i x H H' hi ⟨s, hl⟩ y
    obtain ⟨rfl, a, ha, rfl⟩ := hY _ _ _ _ y
    have hlen : (((xs.take i).filter p).map f).length < sizeLine := by
      refine Nat.lt_of_le_of_lt ?_ hz
      rw [List.length_map]
      refine Nat.le_trans (List.length_filter_le _ _) ?_
      rw [List.length_take]
      omega
    refine hs a (List.mem_of_getElem? ha) H' _ _ s (fun hp H4 s4 => ?_) (fun hp H4 s4 => ?_)
    · refine ⟨_, s4 _ _ hl, hlen, same_upd (s.trans s4) hD, ?_⟩
      rw [upd_same, one_more ha, List.filter_append, List.map_append]
      simp [hp]
    · refine ⟨s.trans s4, ?_⟩
      rw [s4 _ _ hl, one_more ha, List.filter_append, List.map_append]
      simp [hp]
  · rintro H ⟨s, hl⟩
    refine hd H s ?_
    rw [hl, hn, List.take_length]
/-- over a text -/
theorem lc_txt {z : Str} {g : TG} {tt : TT} {te : TE} {vs : List Nat} {σ : L2.St} {H1 : Hp} {D : Addr} {Qd : Hp → Prop} (p : Nat → Bool) (f : Nat → V) (hD : H1 D = none) (hz : z.length < sizeLine)
    (hs : ∀ c, c ∈ z.cps.toList → ∀ (H : Hp) (R : VK) (S : Hp → Prop), Same H1 H → (p c = true → ∀ H', Same H H' → R (f c) H') → (p c = false → ∀ H', Same H H' → S H') →
      g (.str ⟨#[c]⟩) (wipe σ vs) H fun σ2 H2 => wipe σ2 vs = wipe σ vs ∧ tt σ2 H2 fun b H3 => if b = true then te σ2 H3 R else S H3)
    (hd : ∀ H, Same H1 H → H D = some (.lst ((z.cps.toList.filter p).map f)) → Qd H) :
    ∃ W : Nat → Nat → Hp → Prop, (∃ m, W 0 m (upd H1 D (.lst []))) ∧ ∀ i m H, W i m H →
      ((Its z).stop i H ∧ Qd H) ∨ ((Its z).go i H ∧ ∃ Nx : Hp → Prop, (∀ H', Nx H' → ∃ m', m' < m ∧ W (i + 1) m' H') ∧
        ∀ x H', (Its z).yld i H x H' → g x (wipe σ vs) H' fun σ2 H2 => wipe σ2 vs = wipe σ vs ∧ tt σ2 H2 fun b H3 =>
          if b = true then te σ2 H3 fun y H4 => ∃ acc, H4 D = some (.lst acc) ∧ acc.length < sizeLine ∧ Nx (upd H4 D (.lst (acc ++ [y]))) else Nx H3) :=
  lc_map (walk_str (z := z)) z.cps.toList (fun c => .str ⟨#[c]⟩) (by simp) (fun i H x H' ⟨e, c, h1, h2⟩ => ⟨e, c, by simpa using h1, h2⟩) p f hD hz (fun _ _ => trivial) hs hd
/-- over a list -/
theorem lc_lst {α : Type} {K : PySem.W.Frag} {a : Addr} (xs : List α) (emb : α → V) {g : TG} {tt : TT} {te : TE} {vs : List Nat} {σ : L2.St} {H1 : Hp} {D : Addr} {Qd : Hp → Prop} (p : α → Bool) (f : α → V) (hD : H1 D = none) (hz : xs.length < sizeLine)
    (ha : SqL K H1 a (xs.map emb))
    (hs : ∀ c, c ∈ xs → ∀ (H : Hp) (R : VK) (S : Hp → Prop), Same H1 H → (p c = true → ∀ H', Same H H' → R (f c) H') → (p c = false → ∀ H', Same H H' → S H') →
      g (emb c) (wipe σ vs) H fun σ2 H2 => wipe σ2 vs = wipe σ vs ∧ tt σ2 H2 fun b H3 => if b = true then te σ2 H3 R else S H3)
    (hd : ∀ H, Same H1 H → H D = some (.lst ((xs.filter p).map f)) → Qd H) :
    ∃ W : Nat → Nat → Hp → Prop, (∃ m, W 0 m (upd H1 D (.lst []))) ∧ ∀ i m H, W i m H →
      ((Itl K a).stop i H ∧ Qd H) ∨ ((Itl K a).go i H ∧ ∃ Nx : Hp → Prop, (∀ H', Nx H' → ∃ m', m' < m ∧ W (i + 1) m' H') ∧
        ∀ x H', (Itl K a).yld i H x H' → g x (wipe σ vs) H' fun σ2 H2 => wipe σ2 vs = wipe σ vs ∧ tt σ2 H2 fun b H3 =>
          if b = true then te σ2 H3 fun y H4 => ∃ acc, H4 D = some (.lst acc) ∧ acc.length < sizeLine ∧ Nx (upd H4 D (.lst (acc ++ [y]))) else Nx H3) :=
  lc_map (walk_list (K := K) (a := a) (xs := xs.map emb)) xs emb (by simp)
    (fun i H x H' ⟨e, h⟩ => ⟨e, by
      rw [List.getElem?_map] at h
      cases q : xs[i]? with
      | none =>
        rw [q] at h
        cases h
      | some c =>
        rw [q] at h
        exact ⟨c, rfl, (Option.some.inj h).symm⟩⟩) p f hD (by simpa using hz) (fun H s => s.seq ha) hs hd
end Pk

/-! ## Operators, str and construction of instances with a dict; enumerate over a tuple -/
namespace Pk
open PySem PySem.Spec PyProof.Rows L2
open SlX (cmpback)
section
variable {X : Cx} {k n : Nat} {f C g : Addr} {fd : FuncData} {ps : List Str} {sp : Sp} {E : XK} {CX : CXT}
/-- x op y, both instances of the class at C, whose def for op is at g -/
def rOwnD (C : Addr) (sp : Sp) (E : XK) : R2 := fun x y H Q => ∃ a dx fs b dy gs, x = .ref a ∧ y = .ref b ∧ H a = some (.ins C dx fs) ∧ H b = some (.ins C dy gs) ∧ sp [x, y] H Q E
theorem op_ownD {op : CmpOp} (hop : ∀ a b, compareOp op a b = richCompare op a b) (hs : PySem.W.findIn X.K (.ref C) (cmpInfo op).2.1 = some (some (.ref g)))
    (hf : PySem.W.isFn X.K (.ref g) = true) (hn : PySem.W.notFirst X.K C (.ref C) = true) (F : FnR X.prog X.w X.K X.mg X.base CX n g sp) (hr : Room n X.A) (hx : Passes CX X E) : OpR X (compareOp op) (rOwnD C sp E) := by
  intro pins s σ H x y v u Q I rx ry h
  obtain ⟨a, dx, fs, b, dy, gs, rfl, rfl, ha, hb, q⟩ := h
  obtain rfl : v = Value.ref a := rx
  obtain rfl : u = Value.ref b := ry
  obtain ⟨mA, O, _⟩ := ins_get I.hok ha
  obtain ⟨od, J, _⟩ := O.look
  obtain ⟨mB, O', _⟩ := ins_get I.hok hb
  obtain ⟨od', J', _⟩ := O'.look
  obtain ⟨m, hF⟩ := I.fr
  rw [hop]
  refine PySem.W.cmp_K (op := op) (tb := .ref C) hr.units0 hF I.ok.mod.kin J J'.type hn hs hf (wpAny_mono (wpAny_call (run_fnR (us := [.ref a, .ref b]) (vs := [.ref a, .ref b]) F hr hx I (.cons rfl (.cons rfl .nil)) q)) ?_ (fun _ _ x => x))
  rintro w s' ⟨z', H', I', rz, qz⟩
  exact cmpback rz ⟨z', H', I', rz, qz⟩
/-- str(x) of an instance -/
def rStrD (C : Addr) (sp : Sp) (E : XK) : List V → Hp → VK → Prop := fun xs H Q => ∃ a dx fs, xs = [.ref a] ∧ H a = some (.ins C dx fs) ∧ sp [.ref a] H (fun z H' => ∃ t, z = .str t ∧ Q z H') E
theorem call_strD (hs : PySem.W.findIn X.K (.ref C) "__str__" = some (some (.ref g))) (hf : PySem.W.isFn X.K (.ref g) = true) (F : FnR X.prog X.w X.K X.mg X.base CX n g sp) (hr : Room (n + 2) X.A) (hx : Passes CX X E) :
    CallR X (.type "str") (rStrD C sp E) := by
  intro pins s σ H xs us Q I r h
  obtain ⟨a, dx, fs, rfl, ha, q⟩ := h
  obtain ⟨u, rfl, ru⟩ := vals1 r
  obtain rfl : u = Value.ref a := ru
  obtain ⟨mA, O, _⟩ := ins_get I.hok ha
  obtain ⟨od, J, _⟩ := O.look
  have hr1 : Room (n + 1) X.A.in1 := Room.in1 hr
  have hr2 : Room n X.A.in1.in1 := hr1.in1
  refine PySem.W.kso_call hr2.units0 I.kIn J hs hf (wpAny_mono (wpAny_call (SlX.run_at (us := [.ref a]) (ws := [.ref a]) F hr2 I.env0.in1.in1 hx I (.cons rfl .nil) q)) ?_ (fun _ _ x => x))
  rintro w s' ⟨z', H', I', rz, t, rfl, qz⟩
  obtain ⟨tk, rfl⟩ := (show ∃ t', w = Value.str t t' from rz)
  exact ⟨.str t, H', I', ⟨tk, rfl⟩, qz⟩
/-- c(..), c a local name that holds the class at C -/
theorem pe_makeL {i : Nat} {x : Str} {p pos : Pos} {e : Expr} {es : List Expr} {t : TA} (M : Mk X.K C f) (F : FnOk X.prog X.w X.K X.mg X.base CX k f fd ps sp) (hr : Room (k + 1) X.A) (hN : X.N[i]? = some x) (hv : Vis X.env.scope x)
    (hb : Binds X.K fd ps []) (hx : Passes CX X E) (ha : PA X (e :: es) t) (hd : (x == ("__debug__" : Str)) = false := by decide) (hcd : (x == ("__classdict__" : Str)) = false := by decide)
    (he : starEach (e :: es) X.env = (false, eval e X.env) :: starEach es X.env := by rfl) (hpl : (backTo pos (starEach es X.env)).any (·.1) = false := by rfl) :
    PE X (.Call (.Name x p) (e :: es) [] pos) (fun σ H Q => σ[i]? = some (some (.ref C)) ∧ tMake C sp [] E t σ H Q) := by
  constructor
  intro pins s σ H Q I h
  obtain ⟨h1, h2⟩ := h
  refine wpAny_Call_Name_kw (thn ((pe_var hN hv hd hcd).run pins s σ H (fun v H' => v = .ref C ∧ H' = H) I ⟨.ref C, h1, rfl, rfl⟩) ?_)
  rintro u s1 ⟨v, H1, I1, rv, rfl, rfl⟩
  obtain rfl : u = Value.ref C := rv
  refine PySem.W.callWith_K (h₀ := X.base) I1.ok.mod.kin M.kp (thn (ha.run pos pins s1 σ H1 _ I1 h2) ?_) he hpl
  intro us s2 ⟨vs, H2, I2, r, q⟩
  exact ⟨I2.kIn, run_make M F hr hb .nil hx I2 r q⟩
end

/-! ### enumerate over a tuple -/
/-- the tuple at a, each item in a new pair -/
def ItT (K : PySem.W.Frag) (a : Addr) : It :=
  ⟨fun i H => ∃ (xs : List V) (x : V), SqT K H a xs ∧ xs[i]? = some x,
   fun i H v H' => ∃ T x, v = .ref T ∧ H T = none ∧ H' = upd H T (.tup [.int (i : Nat), x]) ∧ ∀ xs, SqT K H a xs → xs[i]? = some x,
   fun i H => ∃ xs : List V, SqT K H a xs ∧ xs.length = i⟩
theorem turn_enT {P : Program} {w : World} {K : PySem.W.Frag} {elts : List Expr} {kk : Nat} {tpos : Pos} (a e it : Addr) :
    Turn P w K (.Tuple elts kk tpos) (ItT K a) [e, it] e (fun i h => (∃ old, IsEnum h e it ((i : Nat) : Int) old) ∧ h.IsTupleIter it a i ∧ e ≠ it ∧ a ≠ it ∧ e ≠ a) where
  mem := by simp
  obj := by
    rintro i h ⟨⟨old, he⟩, ⟨o, ho, hc, hd⟩, _⟩ b hb
    rcases (show b = e ∨ b = it by simpa using hb) with rfl | rfl
    · exact ⟨_, he, fun v q => nomatch q⟩
    · exact ⟨o, ho, fun v q => by rw [hd] at q; cases q⟩
  keep := by
    rintro i h h' ⟨⟨old, he⟩, hi, hne⟩ k
    exact ⟨⟨old, k e (by simp) _ he⟩, hi.at fun o q => k it (by simp) o q, hne⟩
  item := by
    intro X hP hw hK hc i pins s σ H E I hf st hg
    subst hP hw hK
    obtain ⟨⟨old, he⟩, hit, hne, hai, hea⟩ := st
    obtain ⟨xs, x, hq, hx⟩ := hg
    obtain ⟨its, rv, ht, hz⟩ := I.tuple hq
    obtain ⟨u, hu, ru⟩ := rv.get hx
    have hlt : i < its.toArray.size := by
      have h1 := (List.getElem?_eq_some_iff.mp hu).1
      simpa using h1
    have hel : e < s.heap.objs.size := Heap.lt_size he
    have hil : it < s.heap.objs.size := by
      obtain ⟨_, q, _⟩ := hit
      exact Heap.lt_size q
    have D := Draws.tuple (prog := X.prog) (w := X.w) (A := X.A.in1) (I.ok.hd hc) it a hai its.toArray
    refine wpAny_pyNext_enum_itemD D he ⟨hit, ht⟩ hlt hne (by simp [hne, hea]) ?_
    intro y h' tk hy ho hst hT hsz hk
    obtain rfl : u = y := by
      have h1 : its[i]? = some y := by simpa using hy
      rw [hu] at h1
      exact Option.some.inj h1
    refine ⟨_, rfl, wpAny_letOwnedTupleGo_enum (s := { s with heap := h', toks := tk + 1 }) ho ?_⟩
    intro h'' he' sb
    have hT2 := (sb.2 _ (Nat.ne_of_gt hel)).trans hT
    have new : ObjOk X.prog X.w (upd H s.heap.objs.size (.tup [.int (i : Nat), x])) h'' s.heap.objs.size (.tup [.int (i : Nat), x]) :=
      ⟨by show 2 ≤ sizeLine; decide, [.int i tk, u], .cons ⟨_, rfl⟩ (.cons ru .nil), ⟨_, hT2, rfl, _, rfl⟩⟩
    have hk2 : ∀ b ob, b ∉ [e, it] → s.heap.get? b = some ob → h''.get? b = some ob := by
      intro b ob hb q
      have n1 : b ≠ e := fun z => hb (by simp [z])
      have n2 : b ≠ it := fun z => hb (by simp [z])
      exact (sb.2 b n1).trans (hk b ob n1 n2 q)
    have I1 : Inv X pins σ (upd H s.heap.objs.size (.tup [.int (i : Nat), x])) { s with heap := h'', toks := tk + 1 } :=
      I.turnedNew (ch := [e, it]) hk2 hf (Nat.le_refl _) new
    refine ⟨.ref s.heap.objs.size, _, I1, rfl, ⟨_, x, rfl, I.fresh, rfl, ?_⟩, ⟨⟨u, ?_⟩, hst.1.at (fun o q => (sb.2 it (Ne.symm hne)).trans q), hne, hai, hea⟩, ?_⟩
    · intro ys hys
      rw [I.tuple_inj hys hq]
      exact hx
    · rw [show ((i + 1 : Nat) : Int) = (i : Int) + 1 by omega]
      exact he'
    · intro b hb
      have hb' : b < s.heap.objs.size := by
        rcases (show b = e ∨ b = it by simpa using hb) with rfl | rfl
        · exact hel
        · exact hil
      rw [upd_ne (Nat.ne_of_lt hb')]
      exact (hf b hb).1
  done := by
    intro X hP hw hK hc i pins s σ H E I hf st hg
    subst hP hw hK
    obtain ⟨⟨old, he⟩, hit, hne, hai, hea⟩ := st
    obtain ⟨xs, hq, hx⟩ := hg
    obtain ⟨its, rv, ht, hz⟩ := I.tuple hq
    obtain ⟨f0, f1, f2, f3, f4, f5⟩ := hf it (by simp)
    have hln := rv.length
    have D := Draws.tuple (prog := X.prog) (w := X.w) (A := X.A.in1) (I.ok.hd hc) it a hai its.toArray
    have ei : i = its.toArray.size := by
      rw [List.size_toArray, ← hln]
      exact hx.symm
    rw [ei] at hit
    refine wpAny_pyNext_enum_endD D he ⟨hit, ht⟩ ?_
    intro h' eb
    exact ⟨rfl, I.turned (t' := s.toks) (fun b o hb q => eb b o hb q) f0 f1 f3 f4 f5⟩
  self := by
    rintro A i s Q E ⟨⟨_, he⟩, _⟩ h
    exact wpAny_pyIter_enum he h
/-- the making of enumerate(v), v told by what its iterator is -/
theorem new_enum {v : Value} {o : Obj} {W : Heap → Prop} (B : Begins v o W) :
    Meets (Builtin.«enumerate.__new__» ⟨[.type "enumerate", v], []⟩) (fun _ R s => W s.heap ∧ R (.ok (.ret (.ref (s.heap.push o).objs.size)))
      { s with heap := (s.heap.push o).push { cls := .type "enumerate", data := .fields #[.none, .bool false, .ref s.heap.objs.size, rawInt 0, .none, .none] } }) := by
  refine .of_wp ?_
  rintro prog w A R ⟨hp, g, d, tk, os⟩ ⟨h1, h⟩
  have hsub := sub_enumerate
  have q1 : ∀ {A' : Around} {E : Value → Shared → Prop} {Q : Value → Shared → Prop}, Q (.ref hp.objs.size) ⟨hp.push o, g, d, tk, os⟩ → wpAny (model prog w) A' (pyIter v) Q E ⟨hp, g, d, tk, os⟩ := by
    intro A' E Q q
    exact B.iter prog w _ _ ⟨hp, g, d, tk, os⟩ _ h1 q
  wp_walk using q1
  refine wpAny_stack_any (fun st => wpAny_pure ?_)
  split
  · rename_i c _ _ _ _ _
    cases (c == Value.type "enumerate") <;> (wp_walk using q1; exact ⟨_, rfl, h⟩)
  · wp_walk using q1
    exact ⟨_, rfl, h⟩
theorem call_enum {prog : Program} {w : World} {A : Around} {E : Value → Shared → Prop} {s : Shared} {v : Value} {o : Obj} {W : Heap → Prop} {Q : Value → Shared → Prop} (B : Begins v o W) (h1 : W s.heap)
    (h : ∀ h', IsEnum h' (s.heap.objs.size + 1) s.heap.objs.size 0 .none → h'.get? s.heap.objs.size = some o → (∀ b o, s.heap.get? b = some o → h'.get? b = some o) →
      Q (.ref (s.heap.objs.size + 1)) { s with heap := h' }) : wpAny (model prog w) A (call (.type "enumerate") [v]) Q E s := by
  refine callType_new F.called_enumerate (by decide) (F.typeCall_enumerate_1 _) (F.newCall_enumerate_1 _) (fun obj => F.args_object_init_2 obj _) F.entry_enumerate_new (new_enum B) ⟨h1, ?_⟩
  have hz : (s.heap.push o).objs.size = s.heap.objs.size + 1 := Heap.size_push ..
  show _ ∧ _
  rw [hz]
  have he : IsEnum ((s.heap.push o).push { cls := .type "enumerate", data := .fields #[.none, .bool false, .ref s.heap.objs.size, rawInt 0, .none, .none] }) (s.heap.objs.size + 1) s.heap.objs.size 0 .none := by
    have e1 := Heap.get?_push_size (s.heap.push o) (o := { cls := .type "enumerate", data := .fields #[.none, .bool false, .ref s.heap.objs.size, rawInt 0, .none, .none] }) rfl
    rw [hz] at e1
    exact e1
  exact ⟨⟨_, he, rfl⟩, h _ he (Heap.get?_push_of_some _ (Heap.get?_push_size _ B.free)) (fun b o x => Heap.get?_push_of_some _ (Heap.get?_push_of_some _ x))⟩
def iEnT (K : PySem.W.Frag) (ta : TA) : TI := fun σ H R => ta σ H fun vs H1 => ∃ a xs, vs = [.ref a] ∧ SqT K H1 a xs ∧ R (ItT K a) H1
/-- for i, x in enumerate(a tuple) -/
theorem pi_enT {X : Cx} {e : Expr} {ta : TA} {p pos tpos : Pos} {elts : List Expr} {kk : Nat} (hg : Gl X "enumerate") (hm : X.mg "enumerate" = none) (ha : PA X [e] ta)
    (hs : starEach [e] X.env = [(false, eval e X.env)] := by rfl) : PI X (.Tuple elts kk tpos) (.Call (.Name "enumerate" p) [e] [] pos) (iEnT X.K ta) := by
  constructor
  intro pins s σ H R I h
  refine Call_ (ld_blt I hg hm boot_enumerate (PyProof.Rows.callWith_type1 (thn (ha.run pos pins s σ H _ I h) ?_) hs rfl))
  rintro us s1 ⟨vs, H1, I1, r1, a, xs, rfl, hq, q⟩
  obtain ⟨u, rfl, rx⟩ := vals1 r1
  obtain rfl : u = Value.ref a := rx
  obtain ⟨its, rv, ht, hz⟩ := I1.tuple hq
  refine call_enum (begins_tuple a its.toArray) ht ?_
  intro h' he hit hk
  refine wpAny_pyIter_enum he ?_
  have I2 : Inv X pins σ H1 { s1 with heap := h' } := I1.kept (t' := s1.toks) hk
  have la : a < s1.heap.objs.size := ht.lt
  refine ⟨s1.heap.objs.size + 1, [s1.heap.objs.size + 1, s1.heap.objs.size], _, _, H1, rfl, I2, turn_enT a (s1.heap.objs.size + 1) s1.heap.objs.size,
    ⟨⟨.none, he⟩, ⟨_, hit, rfl, rfl⟩, Nat.succ_ne_self _, Nat.ne_of_lt la, Nat.ne_of_gt (Nat.lt_succ_of_lt la)⟩, ?_, q⟩
  intro b hb
  have hle : s1.heap.objs.size ≤ b := by
    rcases (show b = s1.heap.objs.size + 1 ∨ b = s1.heap.objs.size by simpa using hb) with rfl | rfl
    · exact Nat.le_succ _
    · exact Nat.le_refl _
  exact I1.fpOk hle (I1.hok.fresh hle)
theorem walk_enT {K : PySem.W.Frag} {a : Addr} {xs : List V} : Walk (ItT K a) xs.length (fun H => SqT K H a xs) (YPair (fun i => some (.int (i : Nat))) (fun i => xs[i]?)) := by
  refine ⟨fun i _ hi q => ⟨xs, xs[i], q, by simp [hi]⟩, fun _ q => ⟨xs, q, rfl⟩, ?_⟩
  rintro i H v H' _ q ⟨T, x, h1, h2, h3, h4⟩
  exact ⟨T, .int (i : Nat), x, h1, h2, h3, rfl, h4 xs q⟩
end Pk

/-! ## Versions: the mathematics of their texts -/
namespace Pk
open PySem L2 TL SX
def isDig (c : Nat) : Bool := decide (48 ≤ c ∧ c ≤ 57)
/-- number_of_text -/
def nT (l : List Nat) : Option Nat :=
  if (decide (1 ≤ l.length) && (decide (l.length ≤ 3) && l.all isDig)) = true then (if l.head? = some 48 ∧ l ≠ [48] then none else some (NumText.digitsVal l)) else none
def wd : Nat → List Nat
  | 0 => [97]
  | 1 => [98]
  | _ => [114, 99]
/-- stage_of_text, from the i-th word on -/
def sTn (l : List Nat) : Nat → Nat → List Nat × Option Nat
  | 0, _ => (l, some 3000)
  | k + 1, i => match par (wd i) [] l with
    | some (p, q) => (p, (nT q).map (fun n => i * 1000 + n))
    | none => sTn l k (i + 1)
def sT (l : List Nat) : List Nat × Option Nat := sTn l 3 0
def allSome : List (Option Nat) → Option (List Nat)
  | [] => some []
  | none :: _ => none
  | some n :: r => (allSome r).map (n :: ·)
/-- parts_of_text -/
def pT (l : List Nat) : Option (List Nat × Nat) :=
  match (sT l).2, allSome ((spl [46] 0 [] (sT l).1).map nT) with
  | some st, some ns => if ns.length > 4 then none else some (ns, st)
  | _, _ => none
def rk (ns : List Nat) (st : Nat) : Nat := ((ns ++ [0, 0, 0]).take 4).foldl (fun r n => r * 1000 + n) 0 * 3001 + st
def stg (st : Nat) : List Nat := if st = 3000 then [] else wd (st / 1000) ++ numL (st % 1000)
def wrt (figs : List Nat) (st : Nat) : List Nat := joinL [46] (figs.map numL) ++ stg st
theorem nT_num : ∀ n : Nat, n < 1000 → nT (numL n) = some n := by
  intro n hn
  have hd := numL_digits n
  have h1 : (numL n).length ≤ 3 := numL_len (by decide) hn
  have h2 : 1 ≤ (numL n).length := by
    have := numL_ne n
    cases e : numL n with
    | nil => exact absurd e this
    | cons c r => simp
  have h3 : (numL n).all isDig = true := by
    rw [List.all_eq_true]
    intro c hc
    have := hd c hc
    simp only [isDig, decide_eq_true_eq]
    omega
  have h4 : ¬ ((numL n).head? = some 48 ∧ numL n ≠ [48]) := by
    have key : ∀ n : Nat, n < 1000 → decide ((numL n).head? = some 48 ∧ numL n ≠ [48]) = false := by decide +kernel
    exact of_decide_eq_false (key n hn)
  unfold nT
  rw [decide_eq_true h1, decide_eq_true h2, h3]
  simp only [Bool.and_self, if_true]
  rw [if_neg h4, numL_val]
theorem join_chars : ∀ {figs : List Nat} {c : Nat}, c ∈ joinL [46] (figs.map numL) → c = 46 ∨ (48 ≤ c ∧ c ≤ 57)
  | [], c, h => by cases h
  | [n], c, h => by
    have := numL_digits n c h
    omega
  | n :: m :: r, c, h => by
    have h' : c ∈ numL n ++ ([46] ++ joinL [46] ((m :: r).map numL)) := h
    rcases List.mem_append.mp h' with h | h
    · have := numL_digits n c h
      omega
    · rcases List.mem_append.mp h with h | h
      · exact .inl (by simpa using h)
      · exact join_chars h
theorem allSome_map : ∀ figs : List Nat, allSome (figs.map some) = some figs
  | [] => rfl
  | n :: r => by
    show (allSome (r.map some)).map (n :: ·) = some (n :: r)
    rw [allSome_map r]
    rfl
theorem sT_wrt {figs : List Nat} {st : Nat} (hs : st ≤ 3000) : sT (wrt figs st) = (joinL [46] (figs.map numL), some st) := by
  have noc : ∀ c : Nat, 57 < c → c ∉ joinL [46] (figs.map numL) := fun c hc h => by
    have := join_chars h
    omega
  have nod : ∀ c n : Nat, 57 < c → c ∉ numL n := fun c n hc => numL_free (.inr hc)
  unfold wrt
  generalize joinL [46] (figs.map numL) = A at noc
  by_cases h3 : st = 3000
  · subst h3
    have e1 : par [97] [] A = none := par_none1 (noc 97 (by decide))
    have e2 : par [98] [] A = none := par_none1 (noc 98 (by decide))
    have e3 : par [114, 99] [] A = none := par_none1 (noc 114 (by decide))
    simp only [stg, if_true, List.append_nil, sT, sTn, wd, e1, e2, e3]
  · have hs0 : stg st = wd (st / 1000) ++ numL (st % 1000) := if_neg h3
    have hn : nT (numL (st % 1000)) = some (st % 1000) := nT_num _ (Nat.mod_lt _ (by decide))
    have hlt : st / 1000 < 3 := by omega
    rw [hs0]
    have hc : st / 1000 = 0 ∨ st / 1000 = 1 ∨ st / 1000 = 2 := by omega
    rcases hc with h | h | h
    · rw [h]
      have e1 : par [97] [] (A ++ ([97] ++ numL (st % 1000))) = some (A, numL (st % 1000)) := by
        have := par_part1 (s := 97) (S := []) (p := A) (rest := numL (st % 1000)) (acc := []) (noc 97 (by decide))
        simpa using this
      simp only [sT, sTn, wd, e1, hn, Option.map_some]
      congr 2
      omega
    · rw [h]
      have m1 : 97 ∉ A ++ ([98] ++ numL (st % 1000)) := by
        simp only [List.mem_append, List.mem_singleton]
        rintro (q | q | q)
        · exact noc 97 (by decide) q
        · exact absurd q (by decide)
        · exact nod 97 _ (by decide) q
      have e1 : par [97] [] (A ++ ([98] ++ numL (st % 1000))) = none := par_none1 m1
      have e2 : par [98] [] (A ++ ([98] ++ numL (st % 1000))) = some (A, numL (st % 1000)) := by
        have := par_part1 (s := 98) (S := []) (p := A) (rest := numL (st % 1000)) (acc := []) (noc 98 (by decide))
        simpa using this
      simp only [sT, sTn, wd, e1, e2, hn, Option.map_some]
      congr 2
      omega
    · rw [h]
      have m1 : 97 ∉ A ++ ([114, 99] ++ numL (st % 1000)) := by
        simp only [List.mem_append, List.mem_cons, List.not_mem_nil, or_false]
        rintro (q | (q | q) | q)
        · exact noc 97 (by decide) q
        · exact absurd q (by decide)
        · exact absurd q (by decide)
        · exact nod 97 _ (by decide) q
      have m2 : 98 ∉ A ++ ([114, 99] ++ numL (st % 1000)) := by
        simp only [List.mem_append, List.mem_cons, List.not_mem_nil, or_false]
        rintro (q | (q | q) | q)
        · exact noc 98 (by decide) q
        · exact absurd q (by decide)
        · exact absurd q (by decide)
        · exact nod 98 _ (by decide) q
      have e1 : par [97] [] (A ++ ([114, 99] ++ numL (st % 1000))) = none := par_none1 m1
      have e2 : par [98] [] (A ++ ([114, 99] ++ numL (st % 1000))) = none := par_none1 m2
      have e3 : par [114, 99] [] (A ++ ([114, 99] ++ numL (st % 1000))) = some (A, numL (st % 1000)) := by
        have := par_part1 (s := 114) (S := [99]) (p := A) (rest := numL (st % 1000)) (acc := []) (noc 114 (by decide))
        simpa using this
      simp only [sT, sTn, wd, e1, e2, e3, hn, Option.map_some]
      congr 2
      omega
theorem pT_wrt {figs : List Nat} {st : Nat} (hf : figs ≠ []) (h4 : figs.length ≤ 4) (hb : ∀ n ∈ figs, n < 1000) (hs : st ≤ 3000) : pT (wrt figs st) = some (figs, st) := by
  have e : (spl [46] 0 [] (joinL [46] (figs.map numL))).map nT = figs.map some := by
    rw [TL.spl_join (s := 46) (S := []) (by simpa using hf) (fun p hp => by
      obtain ⟨n, _, rfl⟩ := List.mem_map.mp hp
      exact numL_free (.inl (by decide))), List.map_map]
    exact List.map_congr_left fun n hn => nT_num n (hb n hn)
  unfold pT
  rw [sT_wrt hs, e, allSome_map]
  simp only
  rw [if_neg (by omega)]
/-- how many numbers are written -/
def many (ns : List Nat) : Nat → Nat
  | 0 => 0
  | 1 => 1
  | m + 2 => if ns[m + 1]? = some 0 then many ns (m + 1) else m + 2
theorem many_le (ns : List Nat) : ∀ m, many ns m ≤ m
  | 0 => Nat.le_refl _
  | 1 => Nat.le_refl _
  | m + 2 => by
    unfold many
    split
    · exact Nat.le_succ_of_le (many_le ns (m + 1))
    · exact Nat.le_refl _
theorem many_pos (ns : List Nat) : ∀ m, 0 < m → 0 < many ns m
  | 1, _ => Nat.one_pos
  | m + 2, _ => by
    unfold many
    split
    · exact many_pos ns (m + 1) (by omega)
    · omega
def trim (ns : List Nat) : List Nat := ns.take (many ns ns.length)
/-- text_at -/
def n4 (r : Nat) : List Nat := [r / 3001 / 1000000000, r / 3001 / 1000000 % 1000, r / 3001 / 1000 % 1000, r / 3001 % 1000]
def tA (r : Nat) : List Nat := wrt (trim (n4 r)) (r % 3001)
theorem n4_lt {r : Nat} (h : r ≤ 3000999999999999) : ∀ n ∈ n4 r, n < 1000 := by
  intro n hn
  simp only [n4, List.mem_cons, List.not_mem_nil, or_false] at hn
  rcases hn with rfl | rfl | rfl | rfl <;> omega
theorem trim_len (ns : List Nat) : (trim ns).length = many ns ns.length := by
  unfold trim
  rw [List.length_take]
  have := many_le ns ns.length
  omega
theorem pT_tA {r : Nat} (h : r ≤ 3000999999999999) : pT (tA r) = some (trim (n4 r), r % 3001) := by
  have hl : (n4 r).length = 4 := rfl
  refine pT_wrt ?_ ?_ (fun n hn => n4_lt h n (List.mem_of_mem_take hn)) (by omega)
  · intro e
    have h1 := trim_len (n4 r)
    rw [e, hl] at h1
    have := many_pos (n4 r) 4 (by decide)
    simp at h1
    omega
  · have h1 := trim_len (n4 r)
    have := many_le (n4 r) (n4 r).length
    omega
/-- what is left out is zero -/
theorem many_zero (ns : List Nat) : ∀ m i, many ns m ≤ i → i < m → ns[i]? = some 0 ∨ m = 0
  | 0, _, _, h => absurd h (Nat.not_lt_zero _)
  | 1, i, h1, h2 => by
    have : many ns 1 = 1 := rfl
    omega
  | m + 2, i, h1, h2 => by
    unfold many at h1
    split at h1
    · rename_i h0
      by_cases hi : i = m + 1
      · subst hi
        exact .inl h0
      · exact .inl ((many_zero ns (m + 1) i h1 (by omega)).resolve_right (by omega))
    · omega
theorem rk_n4 {r : Nat} (h : r ≤ 3000999999999999) : rk (n4 r) (r % 3001) = r := by
  simp only [rk, n4, List.cons_append, List.nil_append, List.take_succ_cons, List.take_zero, List.foldl_cons, List.foldl_nil]
  omega
theorem take4 {ns : List Nat} (h : ns.length = 4) : ((trim ns) ++ [0, 0, 0]).take 4 = (ns ++ [0, 0, 0]).take 4 := by
  have hz := many_zero ns 4
  have hp := many_pos ns 4 (by decide)
  have hl := many_le ns 4
  unfold trim
  rw [h]
  generalize many ns 4 = m at hz hp hl
  match ns, h with
  | [a, b, c, d], _ =>
    have hm : m = 1 ∨ m = 2 ∨ m = 3 ∨ m = 4 := by omega
    rcases hm with rfl | rfl | rfl | rfl
    · have h1 := (hz 1 (by decide) (by decide)).resolve_right (by decide)
      have h2 := (hz 2 (by decide) (by decide)).resolve_right (by decide)
      have h3 := (hz 3 (by decide) (by decide)).resolve_right (by decide)
      simp at h1 h2 h3
      subst h1 h2 h3
      rfl
    · have h2 := (hz 2 (by decide) (by decide)).resolve_right (by decide)
      have h3 := (hz 3 (by decide) (by decide)).resolve_right (by decide)
      simp at h2 h3
      subst h2 h3
      rfl
    · have h3 := (hz 3 (by decide) (by decide)).resolve_right (by decide)
      simp at h3
      subst h3
      rfl
    · rfl
theorem rk_trim {r : Nat} (h : r ≤ 3000999999999999) : rk (trim (n4 r)) (r % 3001) = r := by
  have e : rk (trim (n4 r)) (r % 3001) = rk (n4 r) (r % 3001) := by
    unfold rk
    rw [take4 rfl]
  rw [e, rk_n4 h]
end Pk

/-! ## An instance compared with any other object -/
namespace Pk
open PySem PySem.Spec PyProof.Rows L2
open SlX (cmpback)
section
variable {X : Cx} {k n : Nat} {f C g : Addr} {fd : FuncData} {ps : List Str} {sp : Sp} {E : XK} {CX : CXT}
/-- x op y, x an instance of the class at C, whose def for op is at g; y of a type that is not below C -/
def rOwnA (K : PySem.W.Frag) (C : Addr) (sp : Sp) (E : XK) : R2 := fun x y H Q => ∃ a dx fs t, x = .ref a ∧ H a = some (.ins C dx fs) ∧ TyX K H y t ∧ PySem.W.notFirst K C t = true ∧ sp [x, y] H Q E
theorem op_ownA {op : CmpOp} (hop : ∀ a b, compareOp op a b = richCompare op a b) (hs : PySem.W.findIn X.K (.ref C) (cmpInfo op).2.1 = some (some (.ref g)))
    (hf : PySem.W.isFn X.K (.ref g) = true) (F : FnR X.prog X.w X.K X.mg X.base CX n g sp) (hr : Room n X.A) (hx : Passes CX X E) : OpR X (compareOp op) (rOwnA X.K C sp E) := by
  intro pins s σ H x y v u Q I rx ry h
  obtain ⟨a, dx, fs, t, rfl, ha, ty, hn, q⟩ := h
  obtain rfl : v = Value.ref a := rx
  obtain ⟨mA, O, _⟩ := ins_get I.hok ha
  obtain ⟨od, J, _⟩ := O.look
  obtain ⟨m, hF⟩ := I.fr
  obtain ⟨P, Z, p, _⟩ := kit_of I ry ty
  rw [hop]
  refine PySem.W.cmp_K (op := op) (tb := t) hr.units0 hF I.ok.mod.kin J (Z.ty _ _ I.kIn p) hn hs hf (wpAny_mono (wpAny_call (run_fnR (us := [.ref a, u]) (vs := [.ref a, y]) F hr hx I (.cons rfl (.cons ry .nil)) q)) ?_ (fun _ _ x => x))
  rintro w s' ⟨z', H', I', rz, qz⟩
  exact cmpback rz ⟨z', H', I', rz, qz⟩
end
/-- no built-in type is an own class -/
theorem kit_not {K : PySem.W.Frag} {C : Addr} (cl : Cls K C) (rd : ClX.CRead K C (.type "type")) {T : String} (hT : (PySem.fastFind? T).isSome = true := by decide +kernel) :
    PySem.W.kitOne K (.type T) (.ref C) = some false ∧ PySem.W.notFirst K C (.type T) = true := by
  have hs : PySem.W.subIn K (.type T) (.ref C) = some false := by
    obtain ⟨d, hd⟩ := Option.isSome_iff_exists.mp hT
    show ((PySem.fastFind? T).map _).map _ = _
    rw [hd]
    show some (List.contains (d.mro.map Value.type) (.ref C)) = some false
    congr 1
    generalize d.mro = ts
    induction ts with
    | nil => rfl
    | cons t r ih =>
      rw [List.map_cons, List.contains_cons, ih]
      rfl
  have h1 : (PySem.W.clsIn K C).isSome = true := by
    have h := cl.hd
    unfold PySem.W.hasDictIn at h
    cases e : PySem.W.clsIn K C with
    | none =>
      rw [e] at h
      cases h
    | some c => rfl
  have h2 : PySem.W.typeIn K (.ref C) = some (.type "type") := by
    have h := rd.rd
    simp only [PySem.W.readsIn, Bool.and_eq_true, beq_iff_eq] at h
    exact h.1.1.1.2
  constructor
  · unfold PySem.W.kitOne
    rw [if_neg (by intro h; cases h)]
    show (if ((PySem.W.clsIn K C).isSome && PySem.W.typeIn K (.ref C) == some (.type "type")) = true then _ else _) = _
    rw [h1, h2, if_pos (by decide), hs]
  · unfold PySem.W.notFirst
    rw [hs]
    rfl
/-! ## Tuples of whole numbers: order -/
theorem dp_ints {K : PySem.W.Frag} {H : Hp} : ∀ {ns : List Int}, DpAll K H (ns.map V.int) (ns.map .int)
  | [] => .nil
  | n :: r => .cons (.int n) (dp_ints (ns := r))
theorem ints_lay : ∀ ns : List Int, PyData.canLayAll0 (ns.map .int) = true
  | [] => rfl
  | n :: r => by
    show (PyData.canLay0 (.int n) && PyData.canLayAll0 (r.map .int)) = true
    rw [ints_lay r]
    simp [PyData.canLay0]
theorem ints_depth : ∀ ns : List Int, PyData.depthAll (ns.map .int) = 0
  | [] => rfl
  | n :: r => by
    show max (PyData.depth (.int n)) (PyData.depthAll (r.map .int)) = 0
    rw [ints_depth r]
    rfl
theorem ints_shaped (ns : List Int) : SeqAt.shaped (.tuple (ns.map .int)) = true := by
  unfold SeqAt.shaped
  have e : PyData.canLay0 (.tuple (ns.map .int)) = true := by
    simp only [PyData.canLay0]
    exact ints_lay ns
  rw [e]
  simp only [PyData.depth, ints_depth]
  rfl
theorem ints_eqv (ns ms : List Int) : PyData.eqv (.tuple (ns.map .int)) (.tuple (ms.map .int)) = decide (ns = ms) := by
  have h := PySem.W.Datum.eqv (α := PySem.W.Tup Int) ⟨ns⟩ ⟨ms⟩
  refine h.trans (decide_eq_decide.mpr ⟨fun e => congrArg PySem.W.Tup.items e, fun e => by rw [e]⟩)
def rTupI (K : PySem.W.Frag) (f : List Int → List Int → Bool) : R2 := fun x y H Q => ∃ (a b : Addr) (ns ms : List Int), x = .ref a ∧ y = .ref b ∧ SqT K H a (ns.map V.int) ∧ SqT K H b (ms.map V.int) ∧ Q (.bl (f ns ms)) H
section
variable {X : Cx}
theorem holds_ints {pins : List (Addr × Obj)} {σ : L2.St} {H : Hp} {s : Shared} {a : Addr} {ns : List Int} {v : Value} (I : Inv X pins σ H s) (h : SqT X.K H a (ns.map V.int)) (r : RelV (.ref a) v) : PySem.W.Holds s.heap v (⟨ns⟩ : PySem.W.Tup Int) :=
  Dp.reads I _ _ v (.tup h dp_ints) r
theorem op_ltTI (hu : X.A.units + 64 < cLine) : OpR X (compareOp .Lt) (rTupI X.K fun ns ms => PySem.W.listLt ns ms) := by
  intro pins s σ H x y v u Q I rx ry h
  obtain ⟨a, b, ns, ms, rfl, rfl, ha, hb, q⟩ := h
  exact PySem.W.lt_datum (holds_ints I ha rx) (holds_ints I hb ry) (Nat.lt_of_le_of_lt (Nat.add_le_add_left (show (1 : Nat) ≤ 64 by decide) _) hu) ⟨.bl _, H, I, rfl, q⟩
theorem op_gtTI (hu : X.A.units + 64 < cLine) : OpR X (compareOp .Gt) (rTupI X.K fun ns ms => PySem.W.listLt ms ns) := by
  intro pins s σ H x y v u Q I rx ry h
  obtain ⟨a, b, ns, ms, rfl, rfl, ha, hb, q⟩ := h
  exact PySem.W.gt_datum (holds_ints I ha rx) (holds_ints I hb ry) (Nat.lt_of_le_of_lt (Nat.add_le_add_left (show (1 : Nat) ≤ 64 by decide) _) hu) ⟨.bl _, H, I, rfl, q⟩
theorem op_leTI (hu : X.A.units + 64 < cLine) : OpR X (compareOp .LtE) (rTupI X.K fun ns ms => !PySem.W.listLt ms ns) := by
  intro pins s σ H x y v u Q I rx ry h
  obtain ⟨a, b, ns, ms, rfl, rfl, ha, hb, q⟩ := h
  exact PySem.W.le_datum (holds_ints I ha rx) (holds_ints I hb ry) (Nat.lt_of_le_of_lt (Nat.add_le_add_left (show (1 : Nat) ≤ 64 by decide) _) hu) ⟨.bl _, H, I, rfl, q⟩
theorem op_geTI (hu : X.A.units + 64 < cLine) : OpR X (compareOp .GtE) (rTupI X.K fun ns ms => !PySem.W.listLt ns ms) := by
  intro pins s σ H x y v u Q I rx ry h
  obtain ⟨a, b, ns, ms, rfl, rfl, ha, hb, q⟩ := h
  exact PySem.W.ge_datum (holds_ints I ha rx) (holds_ints I hb ry) (Nat.lt_of_le_of_lt (Nat.add_le_add_left (show (1 : Nat) ≤ 64 by decide) _) hu) ⟨.bl _, H, I, rfl, q⟩
end
end Pk

namespace Pk
open PySem L2
open ClX (CRead CMet CVal)
def top (i : Nat) : Stmt := PySem.Challenge.pw_parcelindex_k04_whole_ranks_and_order.main.body.getD i (.Pass ⟨0, 0, 0, 0⟩)
abbrev s_is_whole : Stmt := top 3
abbrev N_is_whole : List Str := ["thing"]
abbrev P_is_whole : List Str := ["thing"]
theorem S_is_whole : FnScope N_is_whole P_is_whole (defScope s_is_whole) := ⟨rfl, rfl, rfl, by decide +kernel, rfl, by decide +kernel, by decide +kernel⟩
abbrev s_is_count : Stmt := top 4
abbrev N_is_count : List Str := ["thing"]
abbrev P_is_count : List Str := ["thing"]
theorem S_is_count : FnScope N_is_count P_is_count (defScope s_is_count) := ⟨rfl, rfl, rfl, by decide +kernel, rfl, by decide +kernel, by decide +kernel⟩
abbrev s_is_whole_to : Stmt := top 5
abbrev N_is_whole_to : List Str := ["thing", "last"]
abbrev P_is_whole_to : List Str := ["thing", "last"]
theorem S_is_whole_to : FnScope N_is_whole_to P_is_whole_to (defScope s_is_whole_to) := ⟨rfl, rfl, rfl, by decide +kernel, rfl, by decide +kernel, by decide +kernel⟩
abbrev s_consists_of : Stmt := top 6
abbrev N_consists_of : List Str := ["text", "signs", "sign"]
abbrev P_consists_of : List Str := ["text", "signs"]
theorem S_consists_of : FnScope N_consists_of P_consists_of (defScope s_consists_of) := ⟨rfl, rfl, rfl, by decide +kernel, rfl, by decide +kernel, by decide +kernel⟩
abbrev s_is_string_of : Stmt := top 7
abbrev N_is_string_of : List Str := ["thing", "signs", "most"]
abbrev P_is_string_of : List Str := ["thing", "signs", "most"]
theorem S_is_string_of : FnScope N_is_string_of P_is_string_of (defScope s_is_string_of) := ⟨rfl, rfl, rfl, by decide +kernel, rfl, by decide +kernel, by decide +kernel⟩
abbrev s_number_in : Stmt := top 8
abbrev N_number_in : List Str := ["text", "last", "number"]
abbrev P_number_in : List Str := ["text", "last"]
theorem S_number_in : FnScope N_number_in P_number_in (defScope s_number_in) := ⟨rfl, rfl, rfl, by decide +kernel, rfl, by decide +kernel, by decide +kernel⟩
abbrev s_stage_of_text : Stmt := top 18
abbrev N_stage_of_text : List Str := ["text", "at", "word", "front", "found", "back", "number"]
abbrev P_stage_of_text : List Str := ["text"]
theorem S_stage_of_text : FnScope N_stage_of_text P_stage_of_text (defScope s_stage_of_text) := ⟨rfl, rfl, rfl, by decide +kernel, rfl, by decide +kernel, by decide +kernel⟩
abbrev s_parts_of_text : Stmt := top 19
abbrev N_parts_of_text : List Str := ["thing", "front", "stage", "numbers", "part"]
abbrev P_parts_of_text : List Str := ["thing"]
theorem S_parts_of_text : FnScope N_parts_of_text P_parts_of_text (defScope s_parts_of_text) := ⟨rfl, rfl, rfl, by decide +kernel, rfl, by decide +kernel, by decide +kernel⟩
abbrev s_rank_of : Stmt := top 20
abbrev N_rank_of : List Str := ["numbers", "stage", "rank", "number"]
abbrev P_rank_of : List Str := ["numbers", "stage"]
theorem S_rank_of : FnScope N_rank_of P_rank_of (defScope s_rank_of) := ⟨rfl, rfl, rfl, by decide +kernel, rfl, by decide +kernel, by decide +kernel⟩
abbrev s_numbers_at : Stmt := top 21
abbrev N_numbers_at : List Str := ["rank", "row"]
abbrev P_numbers_at : List Str := ["rank"]
theorem S_numbers_at : FnScope N_numbers_at P_numbers_at (defScope s_numbers_at) := ⟨rfl, rfl, rfl, by decide +kernel, rfl, by decide +kernel, by decide +kernel⟩
abbrev s_text_of_numbers : Stmt := top 22
abbrev N_text_of_numbers : List Str := ["numbers", "many", "number"]
abbrev P_text_of_numbers : List Str := ["numbers"]
theorem S_text_of_numbers : FnScope N_text_of_numbers P_text_of_numbers (defScope s_text_of_numbers) := ⟨rfl, rfl, rfl, by decide +kernel, rfl, by decide +kernel, by decide +kernel⟩
abbrev s_text_of_stage : Stmt := top 23
abbrev N_text_of_stage : List Str := ["stage"]
abbrev P_text_of_stage : List Str := ["stage"]
theorem S_text_of_stage : FnScope N_text_of_stage P_text_of_stage (defScope s_text_of_stage) := ⟨rfl, rfl, rfl, by decide +kernel, rfl, by decide +kernel, by decide +kernel⟩
abbrev s_text_at : Stmt := top 24
abbrev N_text_at : List Str := ["rank"]
abbrev P_text_at : List Str := ["rank"]
theorem S_text_at : FnScope N_text_at P_text_at (defScope s_text_at) := ⟨rfl, rfl, rfl, by decide +kernel, rfl, by decide +kernel, by decide +kernel⟩
abbrev s_Version_init : Stmt := inClass (top 25) 1
abbrev N_Version_init : List Str := ["self", "text", "parts", "numbers", "stage"]
abbrev P_Version_init : List Str := ["self", "text"]
theorem S_Version_init : FnScope N_Version_init P_Version_init (defScope s_Version_init) := ⟨rfl, rfl, rfl, by decide +kernel, rfl, by decide +kernel, by decide +kernel⟩
abbrev s_Version_at : Stmt := inClass (top 25) 3
abbrev N_Version_at : List Str := ["cls", "rank"]
abbrev P_Version_at : List Str := ["cls", "rank"]
theorem S_Version_at : FnScope N_Version_at P_Version_at (defScope s_Version_at) := ⟨rfl, rfl, rfl, by decide +kernel, rfl, by decide +kernel, by decide +kernel⟩
abbrev s_Version_rank : Stmt := inClass (top 25) 6
abbrev N_Version_rank : List Str := ["self"]
abbrev P_Version_rank : List Str := ["self"]
theorem S_Version_rank : FnScope N_Version_rank P_Version_rank (defScope s_Version_rank) := ⟨rfl, rfl, rfl, by decide +kernel, rfl, by decide +kernel, by decide +kernel⟩
abbrev s_Version_eq : Stmt := inClass (top 25) 7
abbrev N_Version_eq : List Str := ["self", "other"]
abbrev P_Version_eq : List Str := ["self", "other"]
theorem S_Version_eq : FnScope N_Version_eq P_Version_eq (defScope s_Version_eq) := ⟨rfl, rfl, rfl, by decide +kernel, rfl, by decide +kernel, by decide +kernel⟩
abbrev s_Version_lt : Stmt := inClass (top 25) 8
abbrev N_Version_lt : List Str := ["self", "other"]
abbrev P_Version_lt : List Str := ["self", "other"]
theorem S_Version_lt : FnScope N_Version_lt P_Version_lt (defScope s_Version_lt) := ⟨rfl, rfl, rfl, by decide +kernel, rfl, by decide +kernel, by decide +kernel⟩
abbrev s_Version_le : Stmt := inClass (top 25) 9
abbrev N_Version_le : List Str := ["self", "other"]
abbrev P_Version_le : List Str := ["self", "other"]
theorem S_Version_le : FnScope N_Version_le P_Version_le (defScope s_Version_le) := ⟨rfl, rfl, rfl, by decide +kernel, rfl, by decide +kernel, by decide +kernel⟩
abbrev s_Version_gt : Stmt := inClass (top 25) 10
abbrev N_Version_gt : List Str := ["self", "other"]
abbrev P_Version_gt : List Str := ["self", "other"]
theorem S_Version_gt : FnScope N_Version_gt P_Version_gt (defScope s_Version_gt) := ⟨rfl, rfl, rfl, by decide +kernel, rfl, by decide +kernel, by decide +kernel⟩
abbrev s_Version_ge : Stmt := inClass (top 25) 11
abbrev N_Version_ge : List Str := ["self", "other"]
abbrev P_Version_ge : List Str := ["self", "other"]
theorem S_Version_ge : FnScope N_Version_ge P_Version_ge (defScope s_Version_ge) := ⟨rfl, rfl, rfl, by decide +kernel, rfl, by decide +kernel, by decide +kernel⟩
abbrev s_Version_str : Stmt := inClass (top 25) 12
abbrev N_Version_str : List Str := ["self"]
abbrev P_Version_str : List Str := ["self"]
theorem S_Version_str : FnScope N_Version_str P_Version_str (defScope s_Version_str) := ⟨rfl, rfl, rfl, by decide +kernel, rfl, by decide +kernel, by decide +kernel⟩
abbrev s_begin : Stmt := top 27
abbrev N_begin : List Str := ["_law_script"]
abbrev P_begin : List Str := ["_law_script"]
theorem S_begin : FnScope N_begin P_begin (defScope s_begin) := ⟨rfl, rfl, rfl, by decide +kernel, rfl, by decide +kernel, by decide +kernel⟩
abbrev s_mixed : Stmt := top 28
abbrev N_mixed : List Str := ["_law_cell", "_law_k", "_law_mixed_here"]
abbrev P_mixed : List Str := ["_law_cell", "_law_k"]
theorem S_mixed : FnScope N_mixed P_mixed (defScope s_mixed) := ⟨rfl, rfl, rfl, by decide +kernel, rfl, by decide +kernel, by decide +kernel⟩
abbrev s_next : Stmt := top 29
abbrev N_next : List Str := ["_law_draw", "_law_bound", "_law_found", "_law_every", "_law_cell"]
abbrev P_next : List Str := ["_law_draw", "_law_bound"]
theorem S_next : FnScope N_next P_next (defScope s_next) := ⟨rfl, rfl, rfl, by decide +kernel, rfl, by decide +kernel, by decide +kernel⟩
abbrev s_number : Stmt := top 30
abbrev N_number : List Str := ["_law_draw"]
abbrev P_number : List Str := ["_law_draw"]
theorem S_number : FnScope N_number P_number (defScope s_number) := ⟨rfl, rfl, rfl, by decide +kernel, rfl, by decide +kernel, by decide +kernel⟩
abbrev s_parts : Stmt := top 31
abbrev N_parts : List Str := ["_law_draw", "_law_figures", "_law_stage", "_law_k"]
abbrev P_parts : List Str := ["_law_draw"]
theorem S_parts : FnScope N_parts P_parts (defScope s_parts) := ⟨rfl, rfl, rfl, by decide +kernel, rfl, by decide +kernel, by decide +kernel⟩
abbrev s_written : Stmt := top 32
abbrev N_written : List Str := ["_law_parts_here", "_law_figures", "_law_stage", "_law_behind", "_law_one"]
abbrev P_written : List Str := ["_law_parts_here"]
theorem S_written : FnScope N_written P_written (defScope s_written) := ⟨rfl, rfl, rfl, by decide +kernel, rfl, by decide +kernel, by decide +kernel⟩
abbrev s_row : Stmt := top 33
abbrev N_row : List Str := ["_law_parts_here", "_law_figures", "_law_stage", "_law_behind"]
abbrev P_row : List Str := ["_law_parts_here"]
theorem S_row : FnScope N_row P_row (defScope s_row) := ⟨rfl, rfl, rfl, by decide +kernel, rfl, by decide +kernel, by decide +kernel⟩
abbrev s_rank : Stmt := top 34
abbrev N_rank : List Str := ["_law_parts_here", "_law_row_here", "_law_front"]
abbrev P_rank : List Str := ["_law_parts_here"]
theorem S_rank : FnScope N_rank P_rank (defScope s_rank) := ⟨rfl, rfl, rfl, by decide +kernel, rfl, by decide +kernel, by decide +kernel⟩
abbrev s_parts_at : Stmt := top 35
abbrev N_parts_at : List Str := ["_law_rank_here", "_law_front", "_law_end", "_law_figures"]
abbrev P_parts_at : List Str := ["_law_rank_here"]
theorem S_parts_at : FnScope N_parts_at P_parts_at (defScope s_parts_at) := ⟨rfl, rfl, rfl, by decide +kernel, rfl, by decide +kernel, by decide +kernel⟩
abbrev s_short : Stmt := top 36
abbrev N_short : List Str := ["_law_parts_here", "_law_figures", "_law_stage", "_law_behind", "_law_row_here"]
abbrev P_short : List Str := ["_law_parts_here"]
theorem S_short : FnScope N_short P_short (defScope s_short) := ⟨rfl, rfl, rfl, by decide +kernel, rfl, by decide +kernel, by decide +kernel⟩
abbrev s_near : Stmt := top 37
abbrev N_near : List Str := ["_law_draw", "_law_parts_here", "_law_figures", "_law_stage", "_law_behind", "_law_way", "_law_at"]
abbrev P_near : List Str := ["_law_draw", "_law_parts_here"]
theorem S_near : FnScope N_near P_near (defScope s_near) := ⟨rfl, rfl, rfl, by decide +kernel, rfl, by decide +kernel, by decide +kernel⟩
abbrev s_pair_right : Stmt := top 38
abbrev N_pair_right : List Str := ["_law_one", "_law_other", "_law_first", "_law_second", "_law_near_here", "_law_far", "_law_told"]
abbrev P_pair_right : List Str := ["_law_one", "_law_other"]
theorem S_pair_right : FnScope N_pair_right P_pair_right (defScope s_pair_right) := ⟨rfl, rfl, rfl, by decide +kernel, rfl, by decide +kernel, by decide +kernel⟩
abbrev s_next_right : Stmt := top 39
abbrev N_next_right : List Str := ["_law_rank_here", "_law_here", "_law_behind"]
abbrev P_next_right : List Str := ["_law_rank_here"]
theorem S_next_right : FnScope N_next_right P_next_right (defScope s_next_right) := ⟨rfl, rfl, rfl, by decide +kernel, rfl, by decide +kernel, by decide +kernel⟩
abbrev s_ends_right : Stmt := top 40
abbrev N_ends_right : List Str := ["_law_first", "_law_last"]
abbrev P_ends_right : List Str := []
theorem S_ends_right : FnScope N_ends_right P_ends_right (defScope s_ends_right) := ⟨rfl, rfl, rfl, by decide +kernel, rfl, by decide +kernel, by decide +kernel⟩
abbrev s_law : Stmt := top 41
abbrev N_law : List Str := ["_law_script", "_law_draw", "_law_turn", "_law_one", "_law_other", "_law_rank_here", "_law_odd"]
abbrev P_law : List Str := ["_law_script"]
theorem S_law : FnScope N_law P_law (defScope s_law) := ⟨rfl, rfl, rfl, by decide +kernel, rfl, by decide +kernel, by decide +kernel⟩
structure Ad where
  a_is_whole : Addr
  d_is_whole : FuncData
  a_is_count : Addr
  d_is_count : FuncData
  a_is_whole_to : Addr
  d_is_whole_to : FuncData
  a_consists_of : Addr
  d_consists_of : FuncData
  a_is_string_of : Addr
  d_is_string_of : FuncData
  a_number_in : Addr
  d_number_in : FuncData
  a_stage_of_text : Addr
  d_stage_of_text : FuncData
  a_parts_of_text : Addr
  d_parts_of_text : FuncData
  a_rank_of : Addr
  d_rank_of : FuncData
  a_numbers_at : Addr
  d_numbers_at : FuncData
  a_text_of_numbers : Addr
  d_text_of_numbers : FuncData
  a_text_of_stage : Addr
  d_text_of_stage : FuncData
  a_text_at : Addr
  d_text_at : FuncData
  a_Version_init : Addr
  d_Version_init : FuncData
  a_Version_at : Addr
  d_Version_at : FuncData
  a_Version_rank : Addr
  d_Version_rank : FuncData
  a_Version_eq : Addr
  d_Version_eq : FuncData
  a_Version_lt : Addr
  d_Version_lt : FuncData
  a_Version_le : Addr
  d_Version_le : FuncData
  a_Version_gt : Addr
  d_Version_gt : FuncData
  a_Version_ge : Addr
  d_Version_ge : FuncData
  a_Version_str : Addr
  d_Version_str : FuncData
  a_begin : Addr
  d_begin : FuncData
  a_mixed : Addr
  d_mixed : FuncData
  a_next : Addr
  d_next : FuncData
  a_number : Addr
  d_number : FuncData
  a_parts : Addr
  d_parts : FuncData
  a_written : Addr
  d_written : FuncData
  a_row : Addr
  d_row : FuncData
  a_rank : Addr
  d_rank : FuncData
  a_parts_at : Addr
  d_parts_at : FuncData
  a_short : Addr
  d_short : FuncData
  a_near : Addr
  d_near : FuncData
  a_pair_right : Addr
  d_pair_right : FuncData
  a_next_right : Addr
  d_next_right : FuncData
  a_ends_right : Addr
  d_ends_right : FuncData
  a_law : Addr
  d_law : FuncData
  a_Version : Addr
  p_Version_at : Addr
  p_Version_rank : Addr
  t_Version_LAST : Tok
  k_STAGES : Addr
  t_DIGITS : Tok
  t_FINAL : Tok
  t_WIDTH : Tok
  t_GREATEST : Tok
structure Tex (K : PySem.W.Frag) (mg : Str → Option Value) (D : Ad) : Prop where
  is_whole_F : Fun K "is_whole" "is_whole" s_is_whole D.a_is_whole D.d_is_whole
  is_whole_g : mg "is_whole" = some (.ref D.a_is_whole)
  is_whole_b : Binds K D.d_is_whole P_is_whole []
  is_count_F : Fun K "is_count" "is_count" s_is_count D.a_is_count D.d_is_count
  is_count_g : mg "is_count" = some (.ref D.a_is_count)
  is_count_b : Binds K D.d_is_count P_is_count []
  is_whole_to_F : Fun K "is_whole_to" "is_whole_to" s_is_whole_to D.a_is_whole_to D.d_is_whole_to
  is_whole_to_g : mg "is_whole_to" = some (.ref D.a_is_whole_to)
  is_whole_to_b : Binds K D.d_is_whole_to P_is_whole_to []
  consists_of_F : Fun K "consists_of" "consists_of" s_consists_of D.a_consists_of D.d_consists_of
  consists_of_g : mg "consists_of" = some (.ref D.a_consists_of)
  consists_of_b : Binds K D.d_consists_of P_consists_of []
  is_string_of_F : Fun K "is_string_of" "is_string_of" s_is_string_of D.a_is_string_of D.d_is_string_of
  is_string_of_g : mg "is_string_of" = some (.ref D.a_is_string_of)
  is_string_of_b : Binds K D.d_is_string_of P_is_string_of []
  number_in_F : Fun K "number_in" "number_in" s_number_in D.a_number_in D.d_number_in
  number_in_g : mg "number_in" = some (.ref D.a_number_in)
  number_in_b : Binds K D.d_number_in P_number_in []
  stage_of_text_F : Fun K "stage_of_text" "stage_of_text" s_stage_of_text D.a_stage_of_text D.d_stage_of_text
  stage_of_text_g : mg "stage_of_text" = some (.ref D.a_stage_of_text)
  stage_of_text_b : Binds K D.d_stage_of_text P_stage_of_text []
  parts_of_text_F : Fun K "parts_of_text" "parts_of_text" s_parts_of_text D.a_parts_of_text D.d_parts_of_text
  parts_of_text_g : mg "parts_of_text" = some (.ref D.a_parts_of_text)
  parts_of_text_b : Binds K D.d_parts_of_text P_parts_of_text []
  rank_of_F : Fun K "rank_of" "rank_of" s_rank_of D.a_rank_of D.d_rank_of
  rank_of_g : mg "rank_of" = some (.ref D.a_rank_of)
  rank_of_b : Binds K D.d_rank_of P_rank_of []
  numbers_at_F : Fun K "numbers_at" "numbers_at" s_numbers_at D.a_numbers_at D.d_numbers_at
  numbers_at_g : mg "numbers_at" = some (.ref D.a_numbers_at)
  numbers_at_b : Binds K D.d_numbers_at P_numbers_at []
  text_of_numbers_F : Fun K "text_of_numbers" "text_of_numbers" s_text_of_numbers D.a_text_of_numbers D.d_text_of_numbers
  text_of_numbers_g : mg "text_of_numbers" = some (.ref D.a_text_of_numbers)
  text_of_numbers_b : Binds K D.d_text_of_numbers P_text_of_numbers []
  text_of_stage_F : Fun K "text_of_stage" "text_of_stage" s_text_of_stage D.a_text_of_stage D.d_text_of_stage
  text_of_stage_g : mg "text_of_stage" = some (.ref D.a_text_of_stage)
  text_of_stage_b : Binds K D.d_text_of_stage P_text_of_stage []
  text_at_F : Fun K "text_at" "text_at" s_text_at D.a_text_at D.d_text_at
  text_at_g : mg "text_at" = some (.ref D.a_text_at)
  text_at_b : Binds K D.d_text_at P_text_at []
  Version_init_F : Fun K "__init__" "Version.__init__" s_Version_init D.a_Version_init D.d_Version_init
  Version_init_b : Binds K D.d_Version_init P_Version_init []
  Version_at_F : Fun K "at" "Version.at" s_Version_at D.a_Version_at D.d_Version_at
  Version_at_b : Binds K D.d_Version_at P_Version_at []
  Version_rank_F : Fun K "rank" "Version.rank" s_Version_rank D.a_Version_rank D.d_Version_rank
  Version_rank_b : Binds K D.d_Version_rank P_Version_rank []
  Version_eq_F : Fun K "__eq__" "Version.__eq__" s_Version_eq D.a_Version_eq D.d_Version_eq
  Version_eq_b : Binds K D.d_Version_eq P_Version_eq []
  Version_lt_F : Fun K "__lt__" "Version.__lt__" s_Version_lt D.a_Version_lt D.d_Version_lt
  Version_lt_b : Binds K D.d_Version_lt P_Version_lt []
  Version_le_F : Fun K "__le__" "Version.__le__" s_Version_le D.a_Version_le D.d_Version_le
  Version_le_b : Binds K D.d_Version_le P_Version_le []
  Version_gt_F : Fun K "__gt__" "Version.__gt__" s_Version_gt D.a_Version_gt D.d_Version_gt
  Version_gt_b : Binds K D.d_Version_gt P_Version_gt []
  Version_ge_F : Fun K "__ge__" "Version.__ge__" s_Version_ge D.a_Version_ge D.d_Version_ge
  Version_ge_b : Binds K D.d_Version_ge P_Version_ge []
  Version_str_F : Fun K "__str__" "Version.__str__" s_Version_str D.a_Version_str D.d_Version_str
  Version_str_b : Binds K D.d_Version_str P_Version_str []
  begin_F : Fun K "_law_begin" "_law_begin" s_begin D.a_begin D.d_begin
  begin_g : mg "_law_begin" = some (.ref D.a_begin)
  begin_b : Binds K D.d_begin P_begin []
  mixed_F : Fun K "_law_mixed" "_law_mixed" s_mixed D.a_mixed D.d_mixed
  mixed_g : mg "_law_mixed" = some (.ref D.a_mixed)
  mixed_b : Binds K D.d_mixed P_mixed []
  next_F : Fun K "_law_next" "_law_next" s_next D.a_next D.d_next
  next_g : mg "_law_next" = some (.ref D.a_next)
  next_b : Binds K D.d_next P_next []
  number_F : Fun K "_law_number" "_law_number" s_number D.a_number D.d_number
  number_g : mg "_law_number" = some (.ref D.a_number)
  number_b : Binds K D.d_number P_number []
  parts_F : Fun K "_law_parts" "_law_parts" s_parts D.a_parts D.d_parts
  parts_g : mg "_law_parts" = some (.ref D.a_parts)
  parts_b : Binds K D.d_parts P_parts []
  written_F : Fun K "_law_written" "_law_written" s_written D.a_written D.d_written
  written_g : mg "_law_written" = some (.ref D.a_written)
  written_b : Binds K D.d_written P_written []
  row_F : Fun K "_law_row" "_law_row" s_row D.a_row D.d_row
  row_g : mg "_law_row" = some (.ref D.a_row)
  row_b : Binds K D.d_row P_row []
  rank_F : Fun K "_law_rank" "_law_rank" s_rank D.a_rank D.d_rank
  rank_g : mg "_law_rank" = some (.ref D.a_rank)
  rank_b : Binds K D.d_rank P_rank []
  parts_at_F : Fun K "_law_parts_at" "_law_parts_at" s_parts_at D.a_parts_at D.d_parts_at
  parts_at_g : mg "_law_parts_at" = some (.ref D.a_parts_at)
  parts_at_b : Binds K D.d_parts_at P_parts_at []
  short_F : Fun K "_law_short" "_law_short" s_short D.a_short D.d_short
  short_g : mg "_law_short" = some (.ref D.a_short)
  short_b : Binds K D.d_short P_short []
  near_F : Fun K "_law_near" "_law_near" s_near D.a_near D.d_near
  near_g : mg "_law_near" = some (.ref D.a_near)
  near_b : Binds K D.d_near P_near []
  pair_right_F : Fun K "_law_pair_right" "_law_pair_right" s_pair_right D.a_pair_right D.d_pair_right
  pair_right_g : mg "_law_pair_right" = some (.ref D.a_pair_right)
  pair_right_b : Binds K D.d_pair_right P_pair_right []
  next_right_F : Fun K "_law_next_right" "_law_next_right" s_next_right D.a_next_right D.d_next_right
  next_right_g : mg "_law_next_right" = some (.ref D.a_next_right)
  next_right_b : Binds K D.d_next_right P_next_right []
  ends_right_F : Fun K "_law_ends_right" "_law_ends_right" s_ends_right D.a_ends_right D.d_ends_right
  ends_right_g : mg "_law_ends_right" = some (.ref D.a_ends_right)
  ends_right_b : Binds K D.d_ends_right P_ends_right []
  law_F : Fun K "law" "law" s_law D.a_law D.d_law
  law_g : mg "law" = some (.ref D.a_law)
  law_b : Binds K D.d_law P_law []
  Version_g : mg "Version" = some (.ref D.a_Version)
  Version_cl : Cls K D.a_Version
  Version_mk : Mk K D.a_Version D.a_Version_init
  Version_rd : CRead K D.a_Version (.type "type")
  Version_si : SlX.SIsi K D.a_Version
  Version_nf : PySem.W.notFirst K D.a_Version (.ref D.a_Version) = true
  Version_n_rank : NoAttr K D.a_Version "_rank"
  Version_init_at : PySem.W.findIn K (.ref D.a_Version) "__init__" = some (some (.ref D.a_Version_init))
  Version_init_fn : PySem.W.isFn K (.ref D.a_Version_init) = true
  Version_at_c : CMet K D.a_Version (.type "type") "at" D.p_Version_at D.a_Version_at
  Version_rank_p : PropOf K D.a_Version "rank" D.p_Version_rank D.a_Version_rank
  Version_eq_at : PySem.W.findIn K (.ref D.a_Version) "__eq__" = some (some (.ref D.a_Version_eq))
  Version_eq_fn : PySem.W.isFn K (.ref D.a_Version_eq) = true
  Version_lt_at : PySem.W.findIn K (.ref D.a_Version) "__lt__" = some (some (.ref D.a_Version_lt))
  Version_lt_fn : PySem.W.isFn K (.ref D.a_Version_lt) = true
  Version_le_at : PySem.W.findIn K (.ref D.a_Version) "__le__" = some (some (.ref D.a_Version_le))
  Version_le_fn : PySem.W.isFn K (.ref D.a_Version_le) = true
  Version_gt_at : PySem.W.findIn K (.ref D.a_Version) "__gt__" = some (some (.ref D.a_Version_gt))
  Version_gt_fn : PySem.W.isFn K (.ref D.a_Version_gt) = true
  Version_ge_at : PySem.W.findIn K (.ref D.a_Version) "__ge__" = some (some (.ref D.a_Version_ge))
  Version_ge_fn : PySem.W.isFn K (.ref D.a_Version_ge) = true
  Version_str_at : PySem.W.findIn K (.ref D.a_Version) "__str__" = some (some (.ref D.a_Version_str))
  Version_str_fn : PySem.W.isFn K (.ref D.a_Version_str) = true
  Version_LAST : CVal K D.a_Version (.type "type") "LAST" (.int 3000999999999999) (.int 3000999999999999 D.t_Version_LAST)
  c_STAGES : mg "STAGES" = some (.ref D.k_STAGES)
  v_STAGES : SqT K (fun _ => none) D.k_STAGES [.str "a", .str "b", .str "rc"]
  c_DIGITS : mg "DIGITS" = some (.str "0123456789" D.t_DIGITS)
  c_FINAL : mg "FINAL" = some (.int 3000 D.t_FINAL)
  c_WIDTH : mg "WIDTH" = some (.int 3001 D.t_WIDTH)
  c_GREATEST : mg "GREATEST" = some (.int 999 D.t_GREATEST)
  b_all : mg "all" = none
  b_bool : mg "bool" = none
  b_enumerate : mg "enumerate" = none
  b_int : mg "int" = none
  b_isinstance : mg "isinstance" = none
  b_len : mg "len" = none
  b_list : mg "list" = none
  b_max : mg "max" = none
  b_min : mg "min" = none
  b_range : mg "range" = none
  b_repr : mg "repr" = none
  b_str : mg "str" = none
  b_tuple : mg "tuple" = none
/-! ## The draws -/
section
variable {P : Program} {w : World} {K : PySem.W.Frag} {mg : Str → Option Value} {base : Heap} {D : Ad}
def drK (c : Addr) (a l u : Int) : List (Key × V) := [(.inr "cells", .ref c), (.inr "at", .int a), (.inr "left", .int l), (.inr "used", .int u)]
theorem ne_ca : ¬ (("cells" : Str) = "at") := by decide +kernel
theorem ne_cl : ¬ (("cells" : Str) = "left") := by decide +kernel
theorem ne_cu : ¬ (("cells" : Str) = "used") := by decide +kernel
theorem ne_al : ¬ (("at" : Str) = "left") := by decide +kernel
theorem ne_au : ¬ (("at" : Str) = "used") := by decide +kernel
theorem ne_lu : ¬ (("left" : Str) = "used") := by decide +kernel
theorem ne_la : ¬ (("left" : Str) = "at") := by decide +kernel
theorem ne_ua : ¬ (("used" : Str) = "at") := by decide +kernel
theorem ne_ul : ¬ (("used" : Str) = "left") := by decide +kernel
theorem dr_cells (c : Addr) (a l u : Int) : valV (drK c a l u) (.inr "cells" : Key) = some (.ref c) := by simp [valV, drK]
theorem dr_at (c : Addr) (a l u : Int) : valV (drK c a l u) (.inr "at" : Key) = some (.int a) := by simp [valV, drK, ne_ca]
theorem dr_left (c : Addr) (a l u : Int) : valV (drK c a l u) (.inr "left" : Key) = some (.int l) := by simp [valV, drK, ne_cl, ne_al]
theorem dr_used (c : Addr) (a l u : Int) : valV (drK c a l u) (.inr "used" : Key) = some (.int u) := by simp [valV, drK, ne_cu, ne_au, ne_lu]
theorem dr_pat (c : Addr) (a l u x : Int) : putK (drK c a l u) (.inr "at" : Key) (.int x) = drK c x l u := by simp [putK, drK, ne_ca, ne_la, ne_ua]
theorem dr_pleft (c : Addr) (a l u x : Int) : putK (drK c a l u) (.inr "left" : Key) (.int x) = drK c a x u := by simp [putK, drK, ne_cl, ne_al, ne_ul]
theorem dr_pused (c : Addr) (a l u x : Int) : putK (drK c a l u) (.inr "used" : Key) (.int x) = drK c a l x := by simp [putK, drK, ne_cu, ne_au, ne_lu]

/-- a draw stands at d, its cells at c, at most n steps were made -/
def Dr (H : Hp) (d c : Addr) (n : Nat) : Prop := ∃ (cs : List Int) (a l u : Int), H d = some (.dK (drK c a l u)) ∧ H c = some (.lst (cs.map V.int)) ∧
  cs ≠ [] ∧ cs.length ≤ 64 ∧ 0 ≤ a ∧ a ≤ n ∧ 0 ≤ l ∧ 0 ≤ u ∧ u ≤ n
/-- all stands but what is at d -/
def But (d : Addr) (H H' : Hp) : Prop := ∀ b o, H b = some o → b ≠ d → H' b = some o
theorem But.refl {d : Addr} {H : Hp} : But d H H := fun _ _ e _ => e
theorem But.trans {d : Addr} {H H1 H2 : Hp} (x : But d H H1) (y : But d H1 H2) : But d H H2 := fun b o e n => y b o (x b o e n) n
theorem But.upd {d : Addr} {H : Hp} {o : HO} : But d H (upd H d o) := fun b u e n => by rw [upd_ne n]; exact e
theorem But.new {d p : Addr} {H H1 : Hp} {o : HO} (x : But d H H1) (h : H1 p = none) : But d H (L2.upd H1 p o) := fun b u e n => by
  have e1 := x b u e n
  rw [upd_ne (ne_of_none e1 h)]
  exact e1
theorem But.free {d p : Addr} {H H' : Hp} (x : But d H H') (hd : d ≠ p) (h : H' p = none) : H p = none := by
  cases q : H p with
  | none => rfl
  | some o =>
    rw [x p o q (Ne.symm hd)] at h
    cases h
theorem But.of_same {d : Addr} {H H' : Hp} (x : Same H H') : But d H H' := fun b o e _ => x b o e
theorem Dr.dict {H : Hp} {d c : Addr} {n : Nat} (h : Dr H d c n) : ∃ o, H d = some (.dK o) := let ⟨_, _, _, _, e, _⟩ := h; ⟨_, e⟩
theorem Dr.cells {H : Hp} {d c : Addr} {n : Nat} (h : Dr H d c n) : ∃ xs, H c = some (.lst xs) := let ⟨_, _, _, _, _, e, _⟩ := h; ⟨_, e⟩
theorem Dr.mono {H : Hp} {d c : Addr} {n m : Nat} (h : Dr H d c n) (q : n ≤ m) : Dr H d c m := by
  obtain ⟨cs, a, l, u, h1, h2, h3, h4, h5, h6, h7, h8, h9⟩ := h
  exact ⟨cs, a, l, u, h1, h2, h3, h4, h5, by omega, h7, h8, by omega⟩
theorem Dr.keep {H H' : Hp} {d c : Addr} {n : Nat} (h : Dr H d c n) (e : Same H H') : Dr H' d c n := by
  obtain ⟨cs, a, l, u, h1, h2, r⟩ := h
  exact ⟨cs, a, l, u, e _ _ h1, e _ _ h2, r⟩
theorem Dr.new {H : Hp} {d c p : Addr} {n : Nat} {o : HO} (h : Dr H d c n) (q : H p = none) : Dr (upd H p o) d c n :=
  h.keep fun b u e => by rw [upd_ne (ne_of_none e q)]; exact e
/-- what is at p changes -/
theorem Dr.off {H : Hp} {d c p : Addr} {n : Nat} {o : HO} (h : Dr H d c n) (hd : d ≠ p) (hc : c ≠ p) : Dr (upd H p o) d c n := by
  obtain ⟨cs, a, l, u, h1, h2, r⟩ := h
  exact ⟨cs, a, l, u, by rw [upd_ne hd]; exact h1, by rw [upd_ne hc]; exact h2, r⟩
theorem Dr.ne_new {H : Hp} {d c p : Addr} {n : Nat} (h : Dr H d c n) (q : H p = none) : d ≠ p := let ⟨_, e⟩ := h.dict; ne_of_none e q
theorem Dr.nc_new {H : Hp} {d c p : Addr} {n : Nat} (h : Dr H d c n) (q : H p = none) : c ≠ p := let ⟨_, e⟩ := h.cells; ne_of_none e q

def spMixed : Sp := fun vs H Q _ => ∃ c k : Int, vs = [.int c, .int k] ∧ 0 ≤ k ∧ k < 2 ^ 60 ∧ ∀ v, Q (.int v) H
theorem ok_mixed (T : Tex K mg D) : FnOk P w K mg base CX0 1 D.a_mixed D.d_mixed P_mixed spMixed := by
  refine T.mixed_F.ok S_mixed (fun vs H Q E h => ?_) (fun cdv A outer s H vs Q E hr h => ?_)
  · obtain ⟨c, k, rfl, _⟩ := h
    rfl
  · obtain ⟨c, k, rfl, h0, h1, q⟩ := h
    refine ⟨_, (pss_cons (ps_set (i := 2) S_mixed.nd rfl (Or.inl rfl) (pe_op op_mod (pe_op op_add (pe_op op_add (pe_op op_add (pe_op op_mod (pv 0) pe_int) (pe_op op_mul (pe_op op_mul pe_int (pv 1)) (pv 1))) (pe_op op_mul pe_int (pv 1))) pe_int) pe_int))
      (pss_cons (ps_set (i := 2) S_mixed.nd rfl (Or.inl rfl) (pe_op op_mod (pe_op op_mul (pe_op op_mod (pe_op op_mul (pv 2) (pv 2)) pe_int) (pv 2)) pe_int))
      (pss_one (ps_ret (pe_op op_fdiv (pe_op op_mod (pe_op op_mul (pv 2) (pe_op op_add pe_int (pe_op op_mul pe_int (pe_op op_mod (pv 1) pe_int)))) pe_int) pe_int))))), ?_⟩
    refine ⟨_, rfl, _, _, rfl, rfl, (posI rfl), ?_⟩
    refine ⟨_, rfl, _, _, rfl, rfl, .inl ⟨by decide, by decide⟩, ?_⟩
    refine ⟨_, rfl, _, _, rfl, rfl, .inr ⟨by omega, by omega⟩, _, _, rfl, rfl, ?_⟩
    refine ⟨_, rfl, _, _, rfl, rfl, .inl ⟨by decide, by decide⟩, _, _, rfl, rfl, _, _, rfl, rfl, _, _, rfl, rfl, (posI rfl), ?_⟩
    generalize hm : (c % 1000000007 + 7919 * k * k + 31 * k + 7) % 2147483647 = m
    have m0 : 0 ≤ m := by rw [← hm]; exact Int.emod_nonneg _ (by decide)
    have m1 : m < 2147483647 := by rw [← hm]; exact Int.emod_lt_of_pos _ (by decide)
    refine ⟨_, rfl, _, rfl, _, _, rfl, rfl, .inl ⟨by omega, by omega⟩, _, _, rfl, rfl, (posI rfl), ?_⟩
    refine ⟨_, rfl, _, _, rfl, rfl, .inr ⟨by omega, by omega⟩, _, _, rfl, rfl, (posI rfl), ?_⟩
    generalize hn : m * m % 2147483647 * m % 2147483629 = n
    have n0 : 0 ≤ n := by rw [← hn]; exact Int.emod_nonneg _ (by decide)
    have n1 : n < 2147483629 := by rw [← hn]; exact Int.emod_lt_of_pos _ (by decide)
    refine ⟨_, rfl, _, rfl, _, _, rfl, rfl, (posI rfl), _, _, rfl, rfl, .inl ⟨by decide, by decide⟩, _, _, rfl, rfl, _, _, rfl, rfl, .inl ⟨by omega, by omega⟩, ?_⟩
    refine ⟨_, _, rfl, rfl, (posI rfl), _, _, rfl, rfl, ⟨by decide, by decide⟩, ?_⟩
    exact q _

def spNext : Sp := fun vs H Q _ => ∃ (d c : Addr) (b : Int) (n : Nat), vs = [.ref d, .int b] ∧ Dr H d c n ∧ n ≤ 10 ^ 12 ∧ 0 < b ∧ b < 2 ^ 30 ∧
  ∀ (v : Int) (H' : Hp), 0 ≤ v → v < b → Dr H' d c (n + 1) → But d H H' → Q (.int v) H'
theorem ok_next (T : Tex K mg D) : FnOk P w K mg base CX0 2 D.a_next D.d_next P_next spNext := by
  have G_mixed : FnOk P w K mg base CX0 1 D.a_mixed D.d_mixed P_mixed spMixed := ok_mixed T
  refine T.next_F.ok S_next (fun vs H Q E h => ?_) (fun cdv A outer s H vs Q E hr h => ?_)
  · obtain ⟨d, c, b, n, rfl, _⟩ := h
    rfl
  · obtain ⟨d, c, b, n, rfl, ⟨cs, a, l, u, hd, hc, c0, c64, a0, an, l0, u0, un⟩, hn, b0, b1, q⟩ := h
    have hu := hu_of hr
    have ndc : d ≠ c := ne_of hd hc (by intro z; cases z)
    have sz : ∀ c' a' l' u', (drK c' a' l' u').length < sizeLine := fun _ _ _ _ => by show 4 < sizeLine; decide
    have cs0 : 0 < cs.length := List.length_pos_iff.mpr c0
    refine ⟨_, (pss_cons (ps_if (pt_cmpR op_gt (pe_dget hu (pv 0) pe_str (fun _ _ => rfl)) pe_int (nomark _)) (pss_cons (ps_set (i := 2) S_next.nd rfl (Or.inl rfl) (pe_op op_mod (pe_dget hu (pv 0) pe_str (fun _ _ => rfl)) (pv 1)))
      (pss_cons (ps_dput hu (pv 0) pe_str (pe_op op_fdiv (pe_dget hu (pv 0) pe_str (fun _ _ => rfl)) (pv 1)) rfl)
      (pss_one (ps_ret (pv 2))))) pss_nil)
      (pss_cons (ps_set (i := 3) S_next.nd rfl (Or.inl rfl) (pe_dget hu (pv 0) pe_str (fun _ _ => rfl)))
      (pss_cons (ps_set (i := 4) S_next.nd rfl (Or.inl rfl) (pe_ix ix_list (pv 3) (pe_op op_mod (pe_dget hu (pv 0) pe_str (fun _ _ => rfl)) (pe_callB call_len_seq (by rfl) T.b_len (by decide +kernel) (pa_cons (pv 3) pa_nil))) (fun _ _ => rfl)))
      (pss_cons (ps_dput hu (pv 0) pe_str (pe_op op_add (pe_dget hu (pv 0) pe_str (fun _ _ => rfl)) pe_int) rfl)
      (pss_cons (ps_if (PW.pt (pw_and (pt_cmpR op_ge (pv 4) (pe_op op_pow pe_int pe_int) (nomark _)) (pw_and1 (pt_cmpR op_le (pe_dget hu (pv 0) pe_str (fun _ _ => rfl)) (pe_callB call_len_seq (by rfl) T.b_len (by decide +kernel) (pa_cons (pv 3) pa_nil)) (nomark _))))) (pss_cons (ps_dput hu (pv 0) pe_str (pe_op op_fdiv (pv 4) (pv 1)) rfl)
      (pss_one (ps_ret (pe_op op_mod (pv 4) (pv 1))))) pss_nil)
      (pss_cons (ps_dput hu (pv 0) pe_str (pe_op op_add (pe_dget hu (pv 0) pe_str (fun _ _ => rfl)) pe_int) rfl)
      (pss_one (ps_ret (pe_op op_mod (pe_call G_mixed (hr.mono (by decide)) (by rfl) T.mixed_g T.mixed_F.kp T.mixed_b .nil pass0 (pa_cons (pe_call G_mixed (hr.mono (by decide)) (by rfl) T.mixed_g T.mixed_F.kp T.mixed_b .nil pass0 (pa_cons (pv 4) (pa_cons (pe_dget hu (pv 0) pe_str (fun _ _ => rfl)) pa_nil))) (pa_cons (pe_dget hu (pv 0) pe_str (fun _ _ => rfl)) pa_nil))) (pv 1)))))))))), ?_⟩
    refine ⟨_, rfl, d, _, rfl, (by have g := DGet.k (k := .inr "left") hd; rw [dr_left] at g; exact g), _, _, rfl, rfl, _, rfl, ?_⟩
    refine ite2 (fun hl => ?_) (fun hl => ?_)
    · refine ⟨_, rfl, d, _, rfl, (by have g := DGet.k (k := .inr "left") hd; rw [dr_left] at g; exact g), _, rfl, _, _, rfl, rfl, b0, ?_⟩
      refine ⟨_, rfl, d, _, rfl, (by have g := DGet.k (k := .inr "left") hd; rw [dr_left] at g; exact g), _, rfl, _, _, rfl, rfl, ⟨b0, b1⟩, _, rfl, d, _, rfl, DPut.k (k := .inr "left") hd (sz _ _ _ _), ?_⟩
      refine ⟨_, rfl, ?_⟩
      refine q _ _ (Int.emod_nonneg _ (by omega)) (Int.emod_lt_of_pos _ b0) ⟨cs, a, l / b, u, ?_, ?_, c0, c64, a0, by omega, Int.ediv_nonneg l0 (by omega), u0, by omega⟩ But.upd
      · rw [upd_same, dr_pleft]
      · rw [upd_ne ndc.symm]; exact hc
    · refine ⟨_, rfl, d, _, rfl, (by have g := DGet.k (k := .inr "cells") hd; rw [dr_cells] at g; exact g), ?_⟩
      refine ⟨_, rfl, _, rfl, d, _, rfl, (by have g := DGet.k (k := .inr "at") hd; rw [dr_at] at g; exact g), _, rfl, c, _, rfl, .inl (SqL.of hc), _, _, rfl, rfl, (by rw [List.length_map]; show (0 : Int) < (cs.length : Int); omega), ?_⟩
      have hix : 0 ≤ a % ((cs.map V.int).length : Int) ∧ a % ((cs.map V.int).length : Int) < ((cs.map V.int).length : Int) := by
        have e : ((cs.map V.int).length : Int) = (cs.length : Int) := by rw [List.length_map]
        rw [e]
        exact ⟨Int.emod_nonneg _ (by omega), Int.emod_lt_of_pos _ (by omega)⟩
      obtain ⟨x, hx⟩ : ∃ x, (cs.map V.int)[(a % ((cs.map V.int).length : Int)).toNat]? = some (V.int x) := by
        have hlt : (a % ((cs.map V.int).length : Int)).toNat < cs.length := by
          have e : ((cs.map V.int).length : Int) = (cs.length : Int) := by rw [List.length_map]
          omega
        exact ⟨cs[(a % ((cs.map V.int).length : Int)).toNat], by rw [List.getElem?_map, List.getElem?_eq_getElem hlt]; rfl⟩
      refine ⟨c, _, _, _, rfl, rfl, SqL.of hc, (by
        have e : a % ((cs.map V.int).length : Int) = ((a % ((cs.map V.int).length : Int)).toNat : Int) := (Int.toNat_of_nonneg hix.1).symm
        rw [e]
        exact atI_nat hx), ?_⟩
      -- at += 1
      refine ⟨_, rfl, d, _, rfl, (by have g := DGet.k (k := .inr "at") hd; rw [dr_at] at g; exact g), _, _, rfl, rfl, _, rfl, d, _, rfl, DPut.k (k := .inr "at") hd (sz _ _ _ _), ?_⟩
      rw [dr_pat]
      have hd1 : (upd H d (.dK (drK c (a + 1) l u))) d = some (.dK (drK c (a + 1) l u)) := upd_same
      have hc1 : (upd H d (.dK (drK c (a + 1) l u))) c = some (.lst (cs.map V.int)) := by rw [upd_ne ndc.symm]; exact hc
      have bu1 : But d H (upd H d (.dK (drK c (a + 1) l u))) := But.upd
      revert hd1 hc1 bu1
      generalize upd H d (.dK (drK c (a + 1) l u)) = H1
      intro hd1 hc1 bu1
      refine ⟨_, rfl, _, _, rfl, rfl, ⟨by decide, by decide, by decide⟩, _, _, rfl, rfl, _, rfl, ?_⟩
      refine ite2 (fun h18 => ?_) (fun h18 => ?_)
      · refine ⟨_, rfl, d, _, rfl, (by have g := DGet.k (k := .inr "at") hd1; rw [dr_at] at g; exact g), _, rfl, c, _, rfl, .inl (SqL.of hc1), _, _, rfl, rfl, _, rfl, ?_⟩
        refine ite2 (fun hat => ?_) (fun hat => ?_)
        · have x0 : 0 ≤ x := by
            have h2 := of_decide_eq_true h18
            have h3 : (0 : Int) ≤ 10 ^ (18 : Int).toNat := by decide
            omega
          refine ⟨_, rfl, _, rfl, _, _, rfl, rfl, ⟨b0, b1⟩, _, rfl, d, _, rfl, DPut.k (k := .inr "left") hd1 (sz _ _ _ _), ?_⟩
          refine ⟨_, rfl, _, rfl, _, _, rfl, rfl, b0, ?_⟩
          refine q _ _ (Int.emod_nonneg _ (by omega)) (Int.emod_lt_of_pos _ b0) ⟨cs, a + 1, x / b, u, ?_, ?_, c0, c64, by omega, by omega, Int.ediv_nonneg x0 (by omega), u0, by omega⟩ (bu1.trans But.upd)
          · rw [upd_same, dr_pleft]
          · rw [upd_ne ndc.symm]; exact hc1
        ·
          refine ⟨_, rfl, d, _, rfl, (by have g := DGet.k (k := .inr "used") hd1; rw [dr_used] at g; exact g), _, _, rfl, rfl, _, rfl, d, _, rfl, DPut.k (k := .inr "used") hd1 (sz _ _ _ _), ?_⟩
          rw [dr_pused]
          have hd2 : (upd H1 d (.dK (drK c (a + 1) l (u + 1)))) d = some (.dK (drK c (a + 1) l (u + 1))) := upd_same
          have hc2 : (upd H1 d (.dK (drK c (a + 1) l (u + 1)))) c = some (.lst (cs.map V.int)) := by rw [upd_ne ndc.symm]; exact hc1
          refine ⟨_, rfl, _, rfl, d, _, rfl, (by have g := DGet.k (k := .inr "at") hd2; rw [dr_at] at g; exact g), x, a + 1, rfl, by omega, by omega, fun v1 => ?_⟩
          refine ⟨_, rfl, d, _, rfl, (by have g := DGet.k (k := .inr "used") hd2; rw [dr_used] at g; exact g), v1, u + 1, rfl, by omega, by omega, fun v2 => ?_⟩
          refine ⟨_, rfl, _, _, rfl, rfl, b0, ?_⟩
          exact q _ _ (Int.emod_nonneg _ (by omega)) (Int.emod_lt_of_pos _ b0) ⟨cs, a + 1, l, u + 1, hd2, hc2, c0, c64, by omega, by omega, l0, by omega, by omega⟩ (bu1.trans But.upd)
      ·
        refine ⟨_, rfl, d, _, rfl, (by have g := DGet.k (k := .inr "used") hd1; rw [dr_used] at g; exact g), _, _, rfl, rfl, _, rfl, d, _, rfl, DPut.k (k := .inr "used") hd1 (sz _ _ _ _), ?_⟩
        rw [dr_pused]
        have hd2 : (upd H1 d (.dK (drK c (a + 1) l (u + 1)))) d = some (.dK (drK c (a + 1) l (u + 1))) := upd_same
        have hc2 : (upd H1 d (.dK (drK c (a + 1) l (u + 1)))) c = some (.lst (cs.map V.int)) := by rw [upd_ne ndc.symm]; exact hc1
        refine ⟨_, rfl, _, rfl, d, _, rfl, (by have g := DGet.k (k := .inr "at") hd2; rw [dr_at] at g; exact g), x, a + 1, rfl, by omega, by omega, fun v1 => ?_⟩
        refine ⟨_, rfl, d, _, rfl, (by have g := DGet.k (k := .inr "used") hd2; rw [dr_used] at g; exact g), v1, u + 1, rfl, by omega, by omega, fun v2 => ?_⟩
        refine ⟨_, rfl, _, _, rfl, rfl, b0, ?_⟩
        exact q _ _ (Int.emod_nonneg _ (by omega)) (Int.emod_lt_of_pos _ b0) ⟨cs, a + 1, l, u + 1, hd2, hc2, c0, c64, by omega, by omega, l0, by omega, by omega⟩ (bu1.trans But.upd)
end

/-! ## The draws begin -/
section
variable {P : Program} {w : World} {K : PySem.W.Frag} {mg : Str → Option Value} {base : Heap} {D : Ad}
theorem len_app (a b : Str) : (a ++ b).length = a.length + b.length := PySem.strLen_append a b

theorem at_in {α : Type} {xs : List α} {v : Int} (h0 : 0 ≤ v) (h1 : v < (xs.length : Int)) : ∃ x, atI xs v = some x ∧ x ∈ xs := by
  obtain ⟨j, rfl⟩ := Int.eq_ofNat_of_zero_le h0
  have hj : j < xs.length := by omega
  exact ⟨xs[j], atI_nat (List.getElem?_eq_getElem hj), List.getElem_mem hj⟩

/-! ### begin -/
theorem merge_dr (c : Addr) (a l u : Int) : mergeK [] (drK c a l u) = drK c a l u := by simp [mergeK, putK, drK, ne_ca, ne_cl, ne_cu, ne_al, ne_au, ne_lu]
def spBegin (K : PySem.W.Frag) : Sp := fun vs H Q _ => ∃ (a : Addr) (ns : List Int), vs = [.ref a] ∧ Bare K H a (ns.map V.int) ∧ ns.length ≤ 63 ∧ ∀ d c H', H d = none → Same H H' → Dr H' d c 0 → Q (.ref d) H'
theorem ok_begin (T : Tex K mg D) : FnOk P w K mg base CX0 1 D.a_begin D.d_begin P_begin (spBegin K) := by
  refine T.begin_F.ok S_begin (fun vs H Q E h => ?_) (fun cdv A outer s H vs Q E hr h => ?_)
  · obtain ⟨a, ns, rfl, _⟩ := h
    rfl
  · obtain ⟨a, ns, rfl, hb, hl, q⟩ := h
    refine ⟨_, (pss_one (ps_ret (pe_disp (pps_cons pe_str (pe_op op_catS (pv 0) (pe_lst (pa_cons pe_int pa_nil))) (pps_cons pe_str pe_int (pps_cons pe_str pe_int (pps_cons pe_str pe_int pps_nil)))) (by rfl) (by rfl) (fun z => by cases z) (by decide)))), ?_⟩
    intro p hp
    have s1 : Same H (upd H p (.dK [])) := same_new hp
    refine ⟨_, rfl, (by show 1 ≤ sizeLine; decide), fun l hl1 => ⟨a, l, _, _, rfl, rfl, (hb.keep s1).keep (same_new hl1), upd_same, Nat.le_trans (show _ ≤ 1000 by simp; omega) (by decide), fun c hc => ?_⟩⟩
    have s2 := s1.trans (same_new (o := .lst [.int 0]) hl1)
    have s3 := s2.trans (same_new (o := .lst (ns.map V.int ++ [.int 0])) hc)
    have npl : p ≠ l := ne_of_none upd_same hl1
    have npc : p ≠ c := by
      have e : (upd (upd H p (.dK [])) l (.lst [.int 0])) p = some (.dK []) := by rw [upd_ne npl, upd_same]
      exact ne_of_none e hc
    refine ⟨by rw [upd_ne npc, upd_ne npl, upd_same], drK c 0 0 0, rfl, (by show 4 ≤ 15; decide), ?_⟩
    rw [merge_dr]
    refine q p c _ hp (same_upd s3 hp) ⟨ns ++ [0], 0, 0, 0, upd_same, ?_, by simp, by simp; omega, by decide, by decide, by decide, by decide, by decide⟩
    rw [upd_ne npc.symm, upd_same]
    simp

end

/-! ## Versions: the program's defs -/
section
variable {P : Program} {w : World} {K : PySem.W.Frag} {mg : Str → Option Value} {base : Heap} {D : Ad}
open TL SX
theorem szl {n : Nat} (h : n ≤ 1000) : n ≤ sizeLine := Nat.le_trans h (by decide)
theorem szt {n : Nat} (h : n ≤ 1000) : n < sizeLine := Nat.lt_of_le_of_lt h (by decide)
theorem szL {n : Nat} (h : n ≤ 100000) : n ≤ sizeLine := Nat.le_trans h (by decide)
theorem szT {n : Nat} (h : n ≤ 100000) : n < sizeLine := Nat.lt_of_le_of_lt h (by decide)
theorem kit_self {C : Addr} : PySem.W.kitOne K (.ref C) (.ref C) = some true := by
  unfold PySem.W.kitOne
  simp
def inS (sg : Str) (c : Nat) : Bool := decide (c ∈ sg.cps.toList)
theorem filt1 {α : Type} {xs : List α} : xs.filter (fun _ => true) = xs := List.filter_eq_self.mpr (by simp)
def spConsistsOf : Sp := fun vs H Q _ => ∃ t sg : Str, vs = [.str t, .str sg] ∧ t.length ≤ 200 ∧ ∀ H', Same H H' → Q (.bl (t.cps.toList.all (inS sg))) H'
theorem ok_consists_of (T : Tex K mg D) : FnOk P w K mg base CX0 1 D.a_consists_of D.d_consists_of P_consists_of spConsistsOf := by
  refine T.consists_of_F.ok S_consists_of (fun vs H Q E h => ?_) (fun cdv A outer s H vs Q E hr h => ?_)
  · obtain ⟨t, sg, rfl, _⟩ := h
    rfl
  · obtain ⟨t, sg, rfl, hl, q⟩ := h
    refine ⟨_, (pss_one (ps_ret (pe_callB (cr_all rfl) (by rfl) T.b_all (by decide +kernel) (pa_cons (pe_lc (own := [(("sign" : Str), 2)]) (g := gName 2) (tt := tYes) rfl S_consists_of.nd (pi_str (pv 0)) (blkOk_by (N := N_consists_of) (sc := defScope s_consists_of) (by decide +kernel)) (fun _ _ _ _ _ => pg_name (i := 2) S_consists_of.nd rfl (Or.inl rfl)) (fun _ _ _ _ _ => pts_nil) (fun _ _ _ _ _ => (pe_cmpR op_in_sign (pv 2) (pv 1) rfl))) pa_nil)))), ?_⟩
    refine ⟨_, rfl, t, rfl, fun D hD => lc_txt (fun _ => true) (fun c => .bl (inS sg c)) hD (szt (by omega)) (fun c hc H2 R S s2 h1 h2 => ?_) (fun H2 s2 h2 => ?_)⟩
    · exact ⟨rfl, ⟨_, rfl, _, rfl, c, sg, rfl, rfl, h1 rfl _ (Same.refl _)⟩⟩
    · refine ⟨D, t.cps.toList.map (inS sg), rfl, SqL.of (by rw [h2, filt1, List.map_map]; rfl), ?_⟩
      rw [List.all_map]
      exact q _ s2
def goodT (t sg : Str) (m : Int) : Bool := decide (1 ≤ (t.length : Int)) && (decide ((t.length : Int) ≤ m) && t.cps.toList.all (inS sg))
def spStrT : Sp := fun vs H Q _ => ∃ (t sg : Str) (m : Int), vs = [.str t, .str sg, .int m] ∧ t.length ≤ 100000 ∧ m ≤ 100 ∧ ∀ H', Same H H' → Q (.bl (goodT t sg m)) H'
theorem ok_is_string_of (T : Tex K mg D) : FnOk P w K mg base CX0 2 D.a_is_string_of D.d_is_string_of P_is_string_of spStrT := by
  have G_consists_of : FnOk P w K mg base CX0 1 D.a_consists_of D.d_consists_of P_consists_of spConsistsOf := ok_consists_of T
  refine T.is_string_of_F.ok S_is_string_of (fun vs H Q E h => ?_) (fun cdv A outer s H vs Q E hr h => ?_)
  · obtain ⟨x, sg, m, rfl, _⟩ := h
    rfl
  · obtain ⟨t, sg, m, rfl, hl, hm, q⟩ := h
    refine ⟨_, (pss_one (ps_ret (pe_and (pe_callB call_isi (by rfl) T.b_isinstance (by decide +kernel) (pa_cons (pv 0) (pa_cons (pe_bltn (v := .ty "str") (u := .type "str") (by rfl) T.b_str (by decide +kernel) rfl) pa_nil))) (pe_and (pe_chain op_le op_le pe_int (pe_callB call_len_str (by rfl) T.b_len (by decide +kernel) (pa_cons (pv 0) pa_nil)) (pv 2)) (pe_one (pe_call G_consists_of (hr.mono (by decide)) (by rfl) T.consists_of_g T.consists_of_F.kp T.consists_of_b .nil pass0 (pa_cons (pv 0) (pa_cons (pv 1) pa_nil)))))))), ?_⟩
    refine ⟨_, rfl, .str t, .ty "str", .type "str", .type "str", true, rfl, .ty _, .base (.str t), kit_ty (by decide +kernel), true, rfl, iteT ?_⟩
    refine ⟨_, rfl, t, rfl, szL (by omega), _, _, rfl, rfl, _, rfl, ?_⟩
    unfold goodT at q
    refine ite2 (fun h1 => ?_) (fun h1 => ?_)
    · refine ⟨_, rfl, _, _, rfl, rfl, _, rfl, ite2 (fun h2 => ?_) (fun h2 => ?_)⟩
      · have h2' := of_decide_eq_true h2
        refine ⟨_, rfl, _, rfl, t, sg, rfl, by omega, fun H' s' => ?_⟩
        have q2 := q H' s'
        rw [h1, h2] at q2
        exact q2
      · have q2 := q H (Same.refl H)
        rw [h1, Bool.eq_false_iff.mpr h2] at q2
        exact q2
    · refine ⟨_, rfl, iteF ?_⟩
      have q2 := q H (Same.refl H)
      rw [Bool.eq_false_iff.mpr h1] at q2
      exact q2
def oV : Option Nat → V
  | none => .non
  | some n => .int (n : Int)
theorem inS_dig (c : Nat) : inS (("0123456789" : String) : Str) c = isDig c := by
  unfold inS isDig
  have e : ((("0123456789" : String) : Str)).cps.toList = [48, 49, 50, 51, 52, 53, 54, 55, 56, 57] := by decide +kernel
  rw [e, Bool.eq_iff_iff, decide_eq_true_eq, decide_eq_true_eq]
  simp only [List.mem_cons, List.not_mem_nil, or_false]
  omega
theorem good_nT (l : List Nat) (k : Nat) : goodT (S l) (("0123456789" : String) : Str) (k : Int) = (decide (1 ≤ l.length) && (decide (l.length ≤ k) && l.all isDig)) := by
  unfold goodT
  have e1 : decide (1 ≤ ((S l).length : Int)) = decide (1 ≤ l.length) := by rw [S_len]; exact decide_eq_decide.mpr (by omega)
  have e2 : decide (((S l).length : Int) ≤ (k : Int)) = decide (l.length ≤ k) := by rw [S_len]; exact decide_eq_decide.mpr (by omega)
  have e3 : (S l).cps.toList.all (inS (("0123456789" : String) : Str)) = l.all isDig := by
    show l.all _ = _
    congr 1
    funext c
    exact inS_dig c
  rw [e1, e2, e3]
theorem str_num (n : Nat) : Str.ofString (toString ((n : Nat) : Int)) = S (numL n) := ext_tl (tl_num n)
theorem log_num {n : Nat} (h : n < 100000) : ((n : Nat) : Int).natAbs.log2 < 1920 := by
  rw [Int.natAbs_natCast]
  by_cases h0 : n = 0
  · rw [h0]
    decide
  · exact Nat.lt_trans ((Nat.log2_lt h0).mpr (Nat.lt_of_lt_of_le h (by decide : 100000 ≤ 2 ^ 17))) (by decide)
theorem dv_lt : ∀ (l : List Nat), NumText.AllDigits l → NumText.digitsVal l < 10 ^ l.length := by
  intro l
  induction h : l.length generalizing l with
  | zero =>
    intro _
    have : l = [] := List.length_eq_zero_iff.mp h
    subst this
    decide
  | succ n ih =>
    intro hd
    obtain ⟨r, c, rfl⟩ : ∃ r c, l = r ++ [c] := ⟨l.dropLast, l.getLast (by intro e; rw [e] at h; cases h), (List.dropLast_concat_getLast _).symm⟩
    have hr : r.length = n := by simpa using h
    have h1 := ih r hr (fun x hx => hd x (List.mem_append_left _ hx))
    have h2 := hd c (by simp)
    rw [NumText.digitsVal_snoc, Nat.pow_succ]
    omega
/-- number_in, with the last number -/
def nTL (L : Nat) (l : List Nat) : Option Nat :=
  if (decide (1 ≤ l.length) && (decide (l.length ≤ (numL L).length) && l.all isDig)) = true then (if l.head? = some 48 ∧ l ≠ [48] then none else if NumText.digitsVal l ≤ L then some (NumText.digitsVal l) else none) else none
theorem allD {l : List Nat} (h : l.all isDig = true) : NumText.AllDigits l := by
  intro c hc
  have := List.all_eq_true.mp h c hc
  simp only [isDig, decide_eq_true_eq] at this
  omega
theorem nTL_999 (l : List Nat) : nTL 999 l = nT l := by
  unfold nTL nT
  have e : (numL 999).length = 3 := by decide +kernel
  rw [e]
  by_cases h : (decide (1 ≤ l.length) && (decide (l.length ≤ 3) && l.all isDig)) = true
  · rw [if_pos h, if_pos h]
    simp only [Bool.and_eq_true, decide_eq_true_eq] at h
    have hv := dv_lt l (allD h.2.2)
    have : NumText.digitsVal l ≤ 999 := by
      have h3 : (10 : Nat) ^ l.length ≤ 10 ^ 3 := Nat.pow_le_pow_right (by decide) h.2.1
      have : (10 : Nat) ^ 3 = 1000 := rfl
      omega
    rw [if_pos this]
  · rw [if_neg h, if_neg h]
def spNumL : Sp := fun vs H Q _ => ∃ (l : List Nat) (L : Nat), vs = [.str (S l), .int (L : Int)] ∧ l.length ≤ 100000 ∧ L < 100000 ∧ ∀ H', Same H H' → Q (oV (nTL L l)) H'
theorem zero_txt : (("0" : String) : Str) = S [48] := by decide +kernel
theorem ok_number_in (T : Tex K mg D) : FnOk P w K mg base CX0 3 D.a_number_in D.d_number_in P_number_in spNumL := by
  have G_is_string_of : FnOk P w K mg base CX0 2 D.a_is_string_of D.d_is_string_of P_is_string_of spStrT := ok_is_string_of T
  refine T.number_in_F.ok S_number_in (fun vs H Q E h => ?_) (fun cdv A outer s H vs Q E hr h => ?_)
  · obtain ⟨l, L, rfl, _⟩ := h
    rfl
  · obtain ⟨l, L, rfl, hl, hL, q⟩ := h
    have hLl : (numL L).length ≤ 5 := numL_len (by decide) hL
    refine ⟨_, (pss_cons (ps_if (pt_not (pt_val (pe_call G_is_string_of (hr.mono (by decide)) (by rfl) T.is_string_of_g T.is_string_of_F.kp T.is_string_of_b .nil pass0 (pa_cons (pv 0) (pa_cons (pe_glob (v := .str "0123456789") rfl T.c_DIGITS ⟨_, rfl⟩) (pa_cons (pe_callB call_len_str (by rfl) T.b_len (by decide +kernel) (pa_cons (pe_callTy call_str_int (by rfl) T.b_str (by decide +kernel) (pa_cons (pv 1) pa_nil)) pa_nil)) pa_nil)))))) (pss_one (ps_ret pe_non)) pss_nil)
      (pss_cons (ps_if (PW.pt (pw_and (pt_cmpR op_eq (pe_ix ix_str (pv 0) pe_int (fun _ _ => rfl)) pe_str (nomark _)) (pw_and1 (pt_cmpR op_ne (pv 0) pe_str (nomark _))))) (pss_one (ps_ret pe_non)) pss_nil)
      (pss_cons (ps_set (i := 2) S_number_in.nd rfl (Or.inl rfl) (pe_callTy call_int_str (by rfl) T.b_int (by decide +kernel) (pa_cons (pv 0) pa_nil)))
      (pss_one (ps_ret (pe_ifExp (pt_cmpR op_le (pv 2) (pv 1) (nomark _)) (pv 2) pe_non)))))), ?_⟩
    refine ⟨_, rfl, _, rfl, _, rfl, log_num hL, ?_⟩
    rw [str_num]
    refine ⟨_, rfl, by rw [S_len]; exact szl (by omega), S l, (("0123456789" : String) : Str), ((numL L).length : Int), by rw [S_len]; rfl, by rw [S_len]; exact hl, by omega, fun H1 s1 => ⟨_, rfl, ?_⟩⟩
    rw [good_nT]
    unfold nTL at q
    cases hg : (decide (1 ≤ l.length) && (decide (l.length ≤ (numL L).length) && l.all isDig)) with
    | false =>
      rw [hg] at q
      exact iteT (q H1 s1)
    | true =>
      rw [hg, if_pos rfl] at q
      refine iteF ?_
      simp only [Bool.and_eq_true, decide_eq_true_eq] at hg
      obtain ⟨hg1, hg3, hgd⟩ := hg
      have hdig : NumText.AllDigits l := allD hgd
      have hne : l ≠ [] := fun e => by
        rw [e] at hg1
        simp at hg1
      have hin : PySem.intText? (S l) = some ((NumText.digitsVal l : Nat) : Int) := intText_digits (x := S l) hdig hne (by rw [S_len]; omega)
      obtain ⟨c, r, rfl⟩ : ∃ c r, l = c :: r := by
        cases l with
        | nil => exact absurd rfl hne
        | cons c r => exact ⟨c, r, rfl⟩
      have h64 : (S (c :: r)).length ≤ 640 := by rw [S_len]; omega
      refine ⟨_, rfl, S (c :: r), 0, c, rfl, rfl, by rw [S_len]; exact szL (by omega), atI_nat (j := 0) rfl, rfl, _, rfl, ?_⟩
      rw [zero_txt]
      by_cases h0 : c = 48
      · subst h0
        rw [decide_eq_true rfl]
        refine iteT ⟨_, rfl, rfl, _, rfl, ?_⟩
        by_cases h1 : r = []
        · subst h1
          rw [decide_eq_true rfl]
          rw [if_neg (by simp)] at q
          refine iteF ⟨_, rfl, S [48], _, rfl, hin, h64, _, rfl, _, rfl, _, _, rfl, rfl, ?_⟩
          refine ⟨_, rfl, ite2 (fun h2 => ?_) (fun h2 => ?_)⟩
          · have h2' := of_decide_eq_true h2
            rw [if_pos (by omega)] at q
            exact ⟨_, rfl, q H1 s1⟩
          · have h2' := of_decide_eq_false (Bool.eq_false_iff.mpr h2)
            rw [if_neg (by omega)] at q
            exact q H1 s1
        · have hd : decide (V.str (S (48 :: r)) = V.str (S [48])) = false := decide_eq_false (by
            intro e
            injection e with e
            have e2 := S_inj e
            injection e2 with _ e3
            exact h1 e3)
          rw [hd]
          rw [if_pos (by simp [h1])] at q
          exact iteT (q H1 s1)
      · have hd : decide (V.str (S [c]) = V.str (S [48])) = false := decide_eq_false (by
          intro e
          injection e with e
          have e2 := S_inj e
          injection e2 with e3
          exact h0 e3)
        rw [hd]
        rw [if_neg (by simp [h0])] at q
        refine iteF (iteF ⟨_, rfl, S (c :: r), _, rfl, hin, h64, _, rfl, _, rfl, _, _, rfl, rfl, ?_⟩)
        refine ⟨_, rfl, ite2 (fun h2 => ?_) (fun h2 => ?_)⟩
        · have h2' := of_decide_eq_true h2
          rw [if_pos (by omega)] at q
          exact ⟨_, rfl, q H1 s1⟩
        · have h2' := of_decide_eq_false (Bool.eq_false_iff.mpr h2)
          rw [if_neg (by omega)] at q
          exact q H1 s1

/-! ### stage_of_text -/
def stN : List V := [.str "a", .str "b", .str "rc"]
theorem wd_txt : (("a" : String) : Str) = S (wd 0) ∧ (("b" : String) : Str) = S (wd 1) ∧ (("rc" : String) : Str) = S (wd 2) := by decide +kernel
theorem stN_at {i : Nat} {x : V} (h : stN[i]? = some x) : i < 3 ∧ x = .str (S (wd i)) := by
  match i, h with
  | 0, h => exact ⟨by decide, by rw [← wd_txt.1]; exact (Option.some.inj h).symm⟩
  | 1, h => exact ⟨by decide, by rw [← wd_txt.2.1]; exact (Option.some.inj h).symm⟩
  | 2, h => exact ⟨by decide, by rw [← wd_txt.2.2]; exact (Option.some.inj h).symm⟩
  | n + 3, h => simp [stN] at h
theorem wd_ne (i : Nat) : wd i ≠ [] := by
  match i with
  | 0 => simp [wd]
  | 1 => simp [wd]
  | n + 2 => simp [wd]
theorem par_len {b : List Nat} : ∀ {a acc p q : List Nat}, par b acc a = some (p, q) → q.length ≤ a.length ∧ p.length ≤ acc.length + a.length
  | [], acc, p, q, h => by simp [par] at h
  | c :: r, acc, p, q, h => by
    unfold par at h
    split at h
    · injection h with h
      injection h with h1 h2
      rw [← h2, ← h1, List.length_drop]
      omega
    · have := par_len h
      rw [List.length_append] at this
      simp only [List.length_cons, List.length_nil] at this ⊢
      omega
theorem sTn_step {l : List Nat} {k i : Nat} (h : par (wd i) [] l = none) : sTn l (k + 1) i = sTn l k (i + 1) := by
  show (match par (wd i) [] l with
    | some (p, q) => (p, (nT q).map (fun n => i * 1000 + n))
    | none => sTn l k (i + 1)) = _
  rw [h]
theorem sTn_hit {l p q : List Nat} {k i : Nat} (h : par (wd i) [] l = some (p, q)) : sTn l (k + 1) i = (p, (nT q).map (fun n => i * 1000 + n)) := by
  show (match par (wd i) [] l with
    | some (p, q) => (p, (nT q).map (fun n => i * 1000 + n))
    | none => sTn l k (i + 1)) = _
  rw [h]
def spStage : Sp := fun vs H Q _ => ∃ l : List Nat, vs = [.str (S l)] ∧ l.length ≤ 90000 ∧ ∀ p H', Same H H' → H p = none → H' p = some (.tup [.str (S (sT l).1), oV (sT l).2]) → (sT l).1.length ≤ l.length → Q (.ref p) H'
theorem ok_stage_of_text (T : Tex K mg D) : FnOk P w K mg base CX0 4 D.a_stage_of_text D.d_stage_of_text P_stage_of_text spStage := by
  have G_number_in : FnOk P w K mg base CX0 3 D.a_number_in D.d_number_in P_number_in spNumL := ok_number_in T
  refine T.stage_of_text_F.ok S_stage_of_text (fun vs H Q E h => ?_) (fun cdv A outer s H vs Q E hr h => ?_)
  · obtain ⟨l, rfl, _⟩ := h
    rfl
  · obtain ⟨l, rfl, hl, q⟩ := h
    have stK : ∀ H, SqT K H D.k_STAGES stN := fun H => T.v_STAGES.elim (fun h => by
      rcases h with h | ⟨o, h⟩
      · exact nomatch (show (none : Option HO) = some _ from h)
      · exact nomatch (show (none : Option HO) = some _ from h)) .inr
    refine ⟨_, (pss_cons (ps_for PassesOwn.never rfl (pi_enT (by rfl) T.b_enumerate (pa_cons (pe_glob (v := .ref D.k_STAGES) rfl T.c_STAGES rfl) pa_nil)) (pg_tup (by rfl) (pgs_cons (pg_name (i := 1) S_stage_of_text.nd rfl (Or.inl rfl)) (pgs_cons (pg_name (i := 2) S_stage_of_text.nd rfl (Or.inl rfl)) pgs_nil))) (pss_cons (ps_asg (pe_partition (pv 0) (pv 2)) (pg_tup (by rfl) (pgs_cons (pg_name (i := 3) S_stage_of_text.nd rfl (Or.inl rfl)) (pgs_cons (pg_name (i := 4) S_stage_of_text.nd rfl (Or.inl rfl)) (pgs_cons (pg_name (i := 5) S_stage_of_text.nd rfl (Or.inl rfl)) pgs_nil)))))
      (pss_one (ps_if (pt_truth (pv 4) (by intro _; rfl)) (pss_cons (ps_set (i := 6) S_stage_of_text.nd rfl (Or.inl rfl) (pe_call G_number_in (hr.mono (by decide)) (by rfl) T.number_in_g T.number_in_F.kp T.number_in_b .nil pass0 (pa_cons (pv 5) (pa_cons (pe_glob (v := .int 999) rfl T.c_GREATEST ⟨_, rfl⟩) pa_nil))))
      (pss_cons (ps_if (pt_cmpR op_isN (pv 6) pe_non (nomark _)) (pss_one (ps_ret (pe_tup (pa_cons (pv 3) (pa_cons pe_non pa_nil))))) pss_nil)
      (pss_one (ps_ret (pe_tup (pa_cons (pv 3) (pa_cons (pe_op op_add (pe_op op_mul (pv 1) pe_int) (pv 6)) pa_nil))))))) pss_nil))))
      (pss_one (ps_ret (pe_tup (pa_cons (pv 0) (pa_cons (pe_glob (v := .int 3000) rfl T.c_FINAL ⟨_, rfl⟩) pa_nil)))))), ?_⟩
    refine ⟨D.k_STAGES, stN, rfl, stK _, ?_⟩
    refine for_it (walk_enT (xs := stN)) (fun i σ H' => (∃ a b c d e f, σ = [some (.str (S l)), a, b, c, d, e, f]) ∧ Same H H' ∧ sT l = sTn l (3 - i) i) ⟨⟨_, _, _, _, _, _, rfl⟩, Same.refl _, rfl⟩ (fun i σ H' _ _ => stK _) ?_ ?_
    · rintro i x σ H1 H2 hi ⟨⟨o1, o2, o3, o4, o5, o6, rfl⟩, s1, est⟩ ⟨t1, x1, y1, rfl, ht1, rfl, ex, ey⟩
      obtain ⟨hi3, rfl⟩ := stN_at ey
      obtain rfl : V.int (i : Nat) = x1 := Option.some.inj ex
      have s2 := s1.trans (same_new (o := .tup [.int (i : Nat), .str (S (wd i))]) ht1)
      refine ⟨t1, _, rfl, .inl (.inl upd_same), rfl, _, _, rfl, _, _, rfl, rfl, ?_⟩
      have wl : ((S (wd i)).length == 0) = false := by
        rw [S_len]
        cases e : wd i with
        | nil => exact absurd e (wd_ne i)
        | cons c r => rfl
      have wl2 : (((S (wd i)).length : Int) != 0) = true := by
        rw [S_len]
        cases e : wd i with
        | nil => exact absurd e (wd_ne i)
        | cons c r =>
          rw [List.length_cons, bne_iff_ne]
          omega
      have wl3 : (S (wd i)).length ≤ sizeLine := by
        rw [S_len]
        exact szl (by
          match i with
          | 0 => decide
          | 1 => decide
          | n + 2 => simp [wd])
      cases hp : par (wd i) [] l with
      | none =>
        have ep : Txt.partition (S l) (S (wd i)) = (S l, S [], S []) := SX.partition_none (wd_ne i) hp
        refine ⟨_, rfl, ⟨_, rfl⟩, _, rfl, S l, S (wd i), rfl, rfl, wl, by rw [S_len]; exact szL (by omega), fun t2 ht2 => ?_⟩
        rw [ep]
        refine ⟨t2, _, rfl, .inl (.inl upd_same), rfl, _, _, rfl, _, _, rfl, _, _, rfl, rfl, ?_⟩
        refine ⟨_, rfl, false, ⟨Nat.zero_le _, rfl⟩, iteF ?_⟩
        refine ⟨⟨_, _, _, _, _, _, rfl⟩, s2.trans (same_new ht2), ?_⟩
        rw [est, show 3 - i = (3 - (i + 1)) + 1 by omega]
        exact sTn_step hp
      | some pq =>
        obtain ⟨p, q'⟩ := pq
        have ep : Txt.partition (S l) (S (wd i)) = (S p, S (wd i), S q') := SX.partition_some (wd_ne i) hp
        have hpl := par_len hp
        have eS : sT l = (p, (nT q').map (fun n => i * 1000 + n)) := by
          rw [est, show 3 - i = (3 - (i + 1)) + 1 by omega]
          exact sTn_hit hp
        rw [eS] at q
        refine ⟨_, rfl, ⟨_, rfl⟩, _, rfl, S l, S (wd i), rfl, rfl, wl, by rw [S_len]; exact szL (by omega), fun t2 ht2 => ?_⟩
        rw [ep]
        refine ⟨t2, _, rfl, .inl (.inl upd_same), rfl, _, _, rfl, _, _, rfl, _, _, rfl, rfl, ?_⟩
        refine ⟨_, rfl, true, ⟨wl3, wl2.symm⟩, iteT ?_⟩
        have s3 := s2.trans (same_new (o := .tup [.str (S p), .str (S (wd i)), .str (S q')]) ht2)
        refine ⟨_, rfl, q', 999, rfl, by omega, by decide, fun H4 s4 => ⟨_, rfl, rfl, _, rfl, ?_⟩⟩
        rw [nTL_999]
        cases hn : nT q' with
        | none =>
          rw [hn] at q
          refine iteT ⟨_, rfl, by show 2 ≤ sizeLine; decide, fun r hr => ?_⟩
          exact q r _ ((s3.trans s4).trans (same_new hr)) ((s3.trans s4).free hr) upd_same (by simpa using hpl.2)
        | some n =>
          rw [hn] at q
          refine iteF ⟨_, rfl, _, rfl, _, _, rfl, rfl, .inr ⟨by decide, by decide⟩, _, rfl, _, _, rfl, rfl, by show 2 ≤ sizeLine; decide, fun r hr => ?_⟩
          have e1 : oV ((some n).map (fun n => i * 1000 + n)) = V.int ((i : Int) * 1000 + (n : Int)) := by
            show V.int ((i * 1000 + n : Nat) : Int) = _
            congr 1
          rw [e1] at q
          exact q r _ ((s3.trans s4).trans (same_new hr)) ((s3.trans s4).free hr) upd_same (by simpa using hpl.2)
    · rintro σ H1 ⟨⟨o1, o2, o3, o4, o5, o6, rfl⟩, s1, est⟩
      have e0 : sT l = (l, some 3000) := est
      rw [e0] at q
      refine ⟨_, rfl, by show 2 ≤ sizeLine; decide, fun p hp => ?_⟩
      exact q p _ (s1.trans (same_new hp)) (s1.free hp) upd_same (Nat.le_refl _)

/-! ### parts_of_text -/
theorem dot_txt : (("." : String) : Str) = S [46] := by decide +kernel
theorem spl_len {b : List Nat} : ∀ {k : Nat} {acc l : List Nat}, (spl b k acc l).length ≤ l.length + 1 ∧ ∀ x ∈ spl b k acc l, x.length ≤ acc.length + l.length
  | k, acc, [] => by
    rw [spl_nil]
    simp
  | 0, acc, c :: r => by
    by_cases h : pre b (c :: r) = true
    · rw [spl_hit h]
      have ih := spl_len (b := b) (k := b.length - 1) (acc := []) (l := r)
      refine ⟨by simp only [List.length_cons]; omega, ?_⟩
      intro x hx
      rcases List.mem_cons.mp hx with rfl | hx
      · simp
      · have := ih.2 x hx
        simp only [List.length_nil, List.length_cons] at this ⊢
        omega
    · rw [spl_miss (Bool.eq_false_iff.mpr h)]
      have ih := spl_len (b := b) (k := 0) (acc := acc ++ [c]) (l := r)
      refine ⟨by simp only [List.length_cons]; omega, ?_⟩
      intro x hx
      have := ih.2 x hx
      simp only [List.length_append, List.length_cons, List.length_nil] at this ⊢
      omega
  | k + 1, acc, c :: r => by
    have ih := spl_len (b := b) (k := k) (acc := acc) (l := r)
    refine ⟨by show (spl b k acc r).length ≤ _; simp only [List.length_cons]; omega, ?_⟩
    intro x hx
    have := ih.2 x hx
    simp only [List.length_cons]
    omega
def vN (ns : List Nat) : List V := ns.map fun (n : Nat) => V.int (n : Int)
theorem allSome_some : ∀ {os : List (Option Nat)} {ns : List Nat}, allSome os = some ns → os = ns.map some
  | [], ns, h => by
    have : ns = [] := (Option.some.inj h).symm
    subst this
    rfl
  | none :: r, ns, h => by cases h
  | some n :: r, ns, h => by
    have h' : (allSome r).map (n :: ·) = some ns := h
    cases e : allSome r with
    | none =>
      rw [e] at h'
      cases h'
    | some m =>
      rw [e] at h'
      have h2 := Option.some.inj h'
      subst h2
      rw [allSome_some e]
      rfl
theorem allSome_none : ∀ {os : List (Option Nat)}, allSome os = none ↔ none ∈ os
  | [] => by simp [allSome]
  | none :: r => by simp [allSome]
  | some n :: r => by
    have ih := allSome_none (os := r)
    show (allSome r).map (n :: ·) = none ↔ _
    rw [Option.map_eq_none_iff, ih]
    simp
theorem inV_non (os : List (Option Nat)) : inV .non (os.map oV) = (allSome os).isNone := by
  rw [Bool.eq_iff_iff, Option.isNone_iff_eq_none, allSome_none]
  unfold inV
  rw [List.any_map, List.any_eq_true]
  constructor
  · rintro ⟨o, ho, he⟩
    cases o with
    | none => exact ho
    | some n => exact absurd he (by simp [oV, eqV])
  · intro h
    exact ⟨none, h, rfl⟩
theorem flat_oV (os : List (Option Nat)) : (os.map oV).all flatV = true := by
  rw [List.all_map, List.all_eq_true]
  intro o _
  cases o <;> rfl
/-- a version's parts as a value: None, or a new pair of a tuple of numbers and the stage -/
def spParts : Sp := fun vs H Q _ => ∃ l : List Nat, vs = [.str (S l)] ∧ l.length ≤ 80000 ∧
  (pT l = none → ∀ H', Same H H' → Q .non H') ∧
  (∀ ns st, pT l = some (ns, st) → ∀ p q H', Same H H' → H p = none → H' p = some (.tup [.ref q, .int (st : Int)]) → H' q = some (.tup (vN ns)) → Q (.ref p) H')
theorem ok_parts_of_text (T : Tex K mg D) : FnOk P w K mg base CX0 5 D.a_parts_of_text D.d_parts_of_text P_parts_of_text spParts := by
  have G_number_in : FnOk P w K mg base CX0 3 D.a_number_in D.d_number_in P_number_in spNumL := ok_number_in T
  have G_stage_of_text : FnOk P w K mg base CX0 4 D.a_stage_of_text D.d_stage_of_text P_stage_of_text spStage := ok_stage_of_text T
  refine T.parts_of_text_F.ok S_parts_of_text (fun vs H Q E h => ?_) (fun cdv A outer s H vs Q E hr h => ?_)
  · obtain ⟨l, rfl, _⟩ := h
    rfl
  · obtain ⟨l, rfl, hl, q0, q1⟩ := h
    refine ⟨_, (pss_cons (ps_if (pt_not (pt_val (pe_callB call_isi (by rfl) T.b_isinstance (by decide +kernel) (pa_cons (pv 0) (pa_cons (pe_bltn (v := .ty "str") (u := .type "str") (by rfl) T.b_str (by decide +kernel) rfl) pa_nil))))) (pss_one (ps_ret pe_non)) pss_nil)
      (pss_cons (ps_asg (pe_call G_stage_of_text (hr.mono (by decide)) (by rfl) T.stage_of_text_g T.stage_of_text_F.kp T.stage_of_text_b .nil pass0 (pa_cons (pv 0) pa_nil)) (pg_tup (by rfl) (pgs_cons (pg_name (i := 1) S_parts_of_text.nd rfl (Or.inl rfl)) (pgs_cons (pg_name (i := 2) S_parts_of_text.nd rfl (Or.inl rfl)) pgs_nil))))
      (pss_cons (ps_setLc (i := 3) (own := [(("part" : Str), 4)]) (g := gName 4) (tt := tYes) rfl S_parts_of_text.nd rfl rfl (sw_true rfl rfl rfl (by decide +kernel)) (pi_list (pe_split (pv 1) pe_str)) (blkOk_by (N := N_parts_of_text) (sc := defScope s_parts_of_text) (by decide +kernel)) (fun _ _ _ _ _ => pg_name (i := 4) S_parts_of_text.nd rfl (Or.inl rfl)) (fun _ _ _ _ _ => pts_nil) (fun _ _ _ _ _ => (pe_call G_number_in (hr.mono (by decide)) (by rfl) T.number_in_g T.number_in_F.kp T.number_in_b .nil pass0 (pa_cons (pv 4) (pa_cons (pe_glob (v := .int 999) rfl T.c_GREATEST ⟨_, rfl⟩) pa_nil)))))
      (pss_cons (ps_if (PW.pt (pw_or (pt_cmpR op_isN (pv 2) pe_non (nomark _)) (pw_or (pt_cmpR op_in_seq pe_non (pv 3) rfl) (pw_or1 (pt_cmpR op_gt (pe_callB call_len_seq (by rfl) T.b_len (by decide +kernel) (pa_cons (pv 3) pa_nil)) pe_int (nomark _)))))) (pss_one (ps_ret pe_non)) pss_nil)
      (pss_one (ps_ret (pe_tup (pa_cons (pe_callTy call_tuple_of (by rfl) T.b_tuple (by decide +kernel) (pa_cons (pv 3) pa_nil)) (pa_cons (pv 2) pa_nil))))))))), ?_⟩
    refine ⟨_, rfl, .str (S l), .ty "str", .type "str", .type "str", true, rfl, .ty _, .base (.str _), kit_ty (by decide +kernel), _, rfl, iteF ?_⟩
    refine ⟨_, rfl, l, rfl, by omega, fun t1 H1 s1 ht1 ht1' hfl => ?_⟩
    refine ⟨t1, _, rfl, .inl (.inl ht1'), rfl, _, _, rfl, _, _, rfl, rfl, ?_⟩
    generalize hfr : (sT l).1 = fr at hfl
    have esp : Txt.split (S fr) (S [46]) = (spl [46] 0 [] fr).map S := split_S (by simp) (by decide)
    have hsl := spl_len (b := [46]) (k := 0) (acc := []) (l := fr)
    refine ⟨_, rfl, ⟨_, rfl⟩, _, _, rfl, rfl, by rw [dot_txt]; rfl, by rw [S_len]; exact szL (by omega), fun t2 ht2 => ?_⟩
    rw [dot_txt, esp]
    have s2 := s1.trans (same_new (o := .lst (((spl [46] 0 [] fr).map S).map V.str)) ht2)
    have e2 : (upd H1 t2 (.lst (((spl [46] 0 [] fr).map S).map V.str))) t2 = some (.lst ((spl [46] 0 [] fr).map fun x => V.str (S x))) := by
      rw [upd_same, List.map_map]
      rfl
    revert s2 e2
    generalize upd H1 t2 (.lst (((spl [46] 0 [] fr).map S).map V.str)) = H2
    intro s2 e2
    refine ⟨t2, rfl, ⟨_, SqL.of e2⟩, fun D' hD' => lc_lst (spl [46] 0 [] fr) (fun x => V.str (S x)) (fun _ => true) (fun x => oV (nT x)) hD' (szT (by omega)) (SqL.of e2) (fun x hx H3 R S3 s3 h1 h2 => ?_) (fun H3 s3 h3 => ?_)⟩
    · have hxl := hsl.2 x hx
      exact ⟨rfl, ⟨_, rfl, x, 999, rfl, by simp at hxl; omega, by decide, fun H' s' => by rw [nTL_999]; exact h1 rfl H' s'⟩⟩
    · rw [filt1] at h3
      have h3' : H3 D' = some (.lst (((spl [46] 0 [] fr).map nT).map oV)) := by
        rw [h3, List.map_map]
        rfl
      have s4 := s2.trans s3
      have hlen : (((spl [46] 0 [] fr).map nT).map oV).length ≤ 90000 := by
        rw [List.length_map, List.length_map]
        omega
      have ep : pT l = (match (sT l).2, allSome ((spl [46] 0 [] fr).map nT) with
          | some st, some ns => if ns.length > 4 then none else some (ns, st)
          | _, _ => none) := by
        rw [← hfr]
        rfl
      rw [ep] at q0 q1
      generalize (spl [46] 0 [] fr).map nT = os at h3' hlen q0 q1
      generalize (sT l).2 = so at q0 q1
      refine ⟨_, rfl, rfl, _, rfl, ?_⟩
      cases so with
      | none => exact iteT (q0 rfl H3 s4)
      | some st =>
        refine iteF ⟨_, rfl, D', _, rfl, .inl (SqL.of h3'), rfl, flat_oV os, _, rfl, ?_⟩
        show if (inV .non (os.map oV)) = true then _ else _
        rw [inV_non]
        cases ea : allSome os with
        | none =>
          rw [ea] at q0
          exact iteT (q0 rfl H3 s4)
        | some ns =>
          rw [ea] at q0 q1
          have eo := allSome_some ea
          have eo2 : os.map oV = vN ns := by
            rw [eo, List.map_map]
            rfl
          rw [eo2] at h3' hlen
          refine iteF ⟨_, rfl, D', _, rfl, .inl (SqL.of h3'), _, _, rfl, rfl, _, rfl, ?_⟩
          have hln : (vN ns).length = ns.length := List.length_map _
          by_cases h4 : ns.length > 4
          · rw [decide_eq_true (by rw [hln]; omega)]
            refine iteT (q0 ?_ H3 s4)
            simp only [if_pos h4]
          · rw [decide_eq_false (by rw [hln]; omega)]
            refine iteF ⟨_, rfl, D', _, rfl, .inl ⟨SqL.of h3', fun q hq => ⟨_, rfl, by show 2 ≤ sizeLine; decide, fun p hp => ?_⟩⟩⟩
            have s5 := s4.trans (same_new (o := .tup (vN ns)) hq)
            refine q1 ns st (by simp only [if_neg h4]) p q _ (s5.trans (same_new hp)) (s5.free hp) upd_same ?_
            rw [upd_ne (ne_of_none upd_same hp), upd_same]

/-! ### ranks -/
def spRank (K : PySem.W.Frag) : Sp := fun vs H Q _ => ∃ (a : Addr) (ns : List Nat) (st : Nat), vs = [.ref a, .int (st : Int)] ∧ SqT K H a (vN ns) ∧ ns ≠ [] ∧ ns.length ≤ 10 ∧ ∀ H', Same H H' → Q (.int (rk ns st : Nat)) H'
theorem ok_rank_of (T : Tex K mg D) : FnOk P w K mg base CX0 1 D.a_rank_of D.d_rank_of P_rank_of (spRank K) := by
  refine T.rank_of_F.ok S_rank_of (fun vs H Q E h => ?_) (fun cdv A outer s H vs Q E hr h => ?_)
  · obtain ⟨a, ns, st, rfl, _⟩ := h
    rfl
  · obtain ⟨a, ns, st, rfl, ha, hne, h4, q⟩ := h
    refine ⟨_, (pss_cons (ps_set (i := 2) S_rank_of.nd rfl (Or.inl rfl) pe_int)
      (pss_cons (ps_for PassesOwn.never rfl (pi_tup (pe_slice sl_tupA (pe_op op_catA (pe_callTy call_tupleT (by rfl) T.b_tuple (by decide +kernel) (pa_cons (pv 0) pa_nil)) (pe_tup (pa_cons pe_int (pa_cons pe_int (pa_cons pe_int pa_nil))))) po_none (po_some pe_int))) (pg_name (i := 3) S_rank_of.nd rfl (Or.inl rfl)) (pss_one (ps_set (i := 2) S_rank_of.nd rfl (Or.inl rfl) (pe_op op_add (pe_op op_mul (pv 2) pe_int) (pv 3)))))
      (pss_one (ps_ret (pe_op op_add (pe_op op_mul (pv 2) (pe_glob (v := .int 3001) rfl T.c_WIDTH ⟨_, rfl⟩)) (pv 1)))))), ?_⟩
    have hln : (vN ns).length = ns.length := List.length_map _
    have hi0 : vN ns ≠ [] := by
      intro e
      exact hne (List.map_eq_nil_iff.mp e)
    refine ⟨_, rfl, a, _, rfl, ha, by show 3 ≤ sizeLine; decide, fun z hz => ?_⟩
    have hz0 : (vN [0, 0, 0]) = [V.int 0, .int 0, .int 0] := rfl
    have s1 : Same H (upd H z (.tup [.int 0, .int 0, .int 0])) := same_new hz
    have keepT : ∀ {H1 H2 : Hp} {b : Addr} {xs : List V}, Same H1 H2 → SqT K H1 b xs → SqT K H2 b xs := by
      intro H1 H2 b xs e h
      rcases h with (h | ⟨o, h⟩) | h
      · exact .inl (.inl (e _ _ h))
      · exact .inl (.inr ⟨o, e _ _ h⟩)
      · exact .inr h
    refine ⟨a, z, _, _, rfl, rfl, keepT s1 ha, .inl (.inl upd_same), by rw [hln]; exact szl (by simp; omega), fun e => absurd e hi0, fun _ e => (nomatch e), fun _ _ p hp => ?_⟩
    have s2 := s1.trans (same_new (o := .tup (vN ns ++ [.int 0, .int 0, .int 0])) hp)
    have ecut : cutV (vN ns ++ [.int 0, .int 0, .int 0]) none (some 4) = vN ((ns ++ [0, 0, 0]).take 4) := by
      unfold cutV
      have e1 : HT.sIx (vN ns ++ [V.int 0, .int 0, .int 0]).length 0 none = 0 := rfl
      have e2 : HT.sIx (vN ns ++ [V.int 0, .int 0, .int 0]).length (vN ns ++ [V.int 0, .int 0, .int 0]).length (some 4) = 4 := by
        have := HT.sIx_nat (vN ns ++ [V.int 0, .int 0, .int 0]).length (vN ns ++ [V.int 0, .int 0, .int 0]).length 4
        rw [List.length_append, hln] at this ⊢
        have hp : 1 ≤ ns.length := List.length_pos_iff.mpr hne
        have h3 : ([V.int 0, .int 0, .int 0] : List V).length = 3 := rfl
        rw [h3] at this ⊢
        rw [show ((4 : Nat) : Int) = 4 from rfl] at this
        rw [this]
        omega
      rw [e1, e2, List.drop_zero]
      show (vN ns ++ vN [0, 0, 0]).take 4 = _
      unfold vN
      rw [← List.map_append, List.map_take]
    refine ⟨_, rfl, p, _, rfl, .inl (.inl upd_same), fun hw => ?_, fun hw p2 hp2 => ?_⟩
    · have hb : SqT K (upd (upd H z (.tup [.int 0, .int 0, .int 0])) p (.tup (vN ns ++ [.int 0, .int 0, .int 0]))) p (vN ((ns ++ [0, 0, 0]).take 4)) := by
        have e : vN ((ns ++ [0, 0, 0]).take 4) = vN ns ++ [.int 0, .int 0, .int 0] := by
          rw [← ecut]
          unfold cutV
          rw [hw.1, hw.2, List.drop_zero, Nat.sub_zero, List.take_length]
        rw [e]
        exact .inl (.inl upd_same)
      revert hb s2
      generalize upd (upd H z (.tup [.int 0, .int 0, .int 0])) p (.tup (vN ns ++ [.int 0, .int 0, .int 0])) = H3
      intro s2 hb
      refine ⟨_, rfl, ⟨_, hb⟩, for_tup (K := K) (xs := vN ((ns ++ [0, 0, 0]).take 4)) (fun i σ H' => Same H3 H' ∧ ∃ x, σ = [some (.ref a), some (.int (st : Int)), some (.int (((((ns ++ [0, 0, 0]).take 4).take i).foldl (fun r n => r * 1000 + n) 0 : Nat) : Int)), x]) ⟨Same.refl _, _, rfl⟩ (fun i σ H' _ h => keepT h.1 hb) ?_ ?_⟩
      · rintro i y σ H4 hi ⟨s4, x, rfl⟩
        have hi' : ∃ n, ((ns ++ [0, 0, 0]).take 4)[i]? = some n ∧ y = V.int ((n : Nat) : Int) := by
          unfold vN at hi
          rw [List.getElem?_map] at hi
          cases e : ((ns ++ [0, 0, 0]).take 4)[i]? with
          | none =>
            rw [e] at hi
            cases hi
          | some n =>
            rw [e] at hi
            exact ⟨n, rfl, (Option.some.inj hi).symm⟩
        obtain ⟨n, hn, rfl⟩ := hi'
        refine ⟨_, rfl, _, _, rfl, rfl, .inr ⟨by decide, by decide⟩, _, rfl, _, _, rfl, rfl, s4, some (.int ((n : Nat) : Int)), ?_⟩
        rw [one_more hn, List.foldl_append]
        rfl
      · rintro σ H4 ⟨s4, x, rfl⟩
        refine ⟨_, rfl, _, _, rfl, rfl, .inr ⟨by decide, by decide⟩, _, rfl, _, _, rfl, rfl, ?_⟩
        have hl4 : (vN ((ns ++ [0, 0, 0]).take 4)).length = ((ns ++ [0, 0, 0]).take 4).length := List.length_map _
        rw [hl4, List.take_length]
        exact q _ (s2.trans s4)
    · have hb : SqT K (upd (upd (upd H z (.tup [.int 0, .int 0, .int 0])) p (.tup (vN ns ++ [.int 0, .int 0, .int 0]))) p2 (.tup (cutV (vN ns ++ [.int 0, .int 0, .int 0]) none (some 4)))) p2 (vN ((ns ++ [0, 0, 0]).take 4)) := by
        rw [← ecut]
        exact .inl (.inl upd_same)
      have s3 := s2.trans (same_new (o := .tup (cutV (vN ns ++ [.int 0, .int 0, .int 0]) none (some 4))) hp2)
      clear s2
      revert hb s3
      generalize upd (upd (upd H z (.tup [.int 0, .int 0, .int 0])) p (.tup (vN ns ++ [.int 0, .int 0, .int 0]))) p2 (.tup (cutV (vN ns ++ [.int 0, .int 0, .int 0]) none (some 4))) = H3
      intro hb s2
      refine ⟨_, rfl, ⟨_, hb⟩, for_tup (K := K) (xs := vN ((ns ++ [0, 0, 0]).take 4)) (fun i σ H' => Same H3 H' ∧ ∃ x, σ = [some (.ref a), some (.int (st : Int)), some (.int (((((ns ++ [0, 0, 0]).take 4).take i).foldl (fun r n => r * 1000 + n) 0 : Nat) : Int)), x]) ⟨Same.refl _, _, rfl⟩ (fun i σ H' _ h => keepT h.1 hb) ?_ ?_⟩
      · rintro i y σ H4 hi ⟨s4, x, rfl⟩
        have hi' : ∃ n, ((ns ++ [0, 0, 0]).take 4)[i]? = some n ∧ y = V.int ((n : Nat) : Int) := by
          unfold vN at hi
          rw [List.getElem?_map] at hi
          cases e : ((ns ++ [0, 0, 0]).take 4)[i]? with
          | none =>
            rw [e] at hi
            cases hi
          | some n =>
            rw [e] at hi
            exact ⟨n, rfl, (Option.some.inj hi).symm⟩
        obtain ⟨n, hn, rfl⟩ := hi'
        refine ⟨_, rfl, _, _, rfl, rfl, .inr ⟨by decide, by decide⟩, _, rfl, _, _, rfl, rfl, s4, some (.int ((n : Nat) : Int)), ?_⟩
        rw [one_more hn, List.foldl_append]
        rfl
      · rintro σ H4 ⟨s4, x, rfl⟩
        refine ⟨_, rfl, _, _, rfl, rfl, .inr ⟨by decide, by decide⟩, _, rfl, _, _, rfl, rfl, ?_⟩
        have hl4 : (vN ((ns ++ [0, 0, 0]).take 4)).length = ((ns ++ [0, 0, 0]).take 4).length := List.length_map _
        rw [hl4, List.take_length]
        exact q _ (s2.trans s4)
end

/-! ## Versions: written, made, compared -/
section
variable {P : Program} {w : World} {K : PySem.W.Frag} {mg : Str → Option Value} {base : Heap} {D : Ad}
open TL SX
def LAST : Nat := 3000999999999999
theorem sqT_keep {H1 H2 : Hp} {b : Addr} {xs : List V} (e : Same H1 H2) (h : SqT K H1 b xs) : SqT K H2 b xs := by
  rcases h with (h | ⟨o, h⟩) | h
  · exact .inl (.inl (e _ _ h))
  · exact .inl (.inr ⟨o, e _ _ h⟩)
  · exact .inr h
theorem sqT_of {H : Hp} {b : Addr} {xs : List V} (h : H b = some (.tup xs)) : SqT K H b xs := .inl (.inl h)
theorem stK (T : Tex K mg D) (H : Hp) : SqT K H D.k_STAGES stN := T.v_STAGES.elim (fun h => by
  rcases h with h | ⟨o, h⟩
  · exact nomatch (show (none : Option HO) = some _ from h)
  · exact nomatch (show (none : Option HO) = some _ from h)) .inr
def spN4 : Sp := fun vs H Q _ => ∃ r : Nat, vs = [.int (r : Int)] ∧ ∀ p H', Same H H' → H p = none → H' p = some (.tup (vN (n4 r))) → Q (.ref p) H'
theorem ok_numbers_at (T : Tex K mg D) : FnOk P w K mg base CX0 1 D.a_numbers_at D.d_numbers_at P_numbers_at spN4 := by
  refine T.numbers_at_F.ok S_numbers_at (fun vs H Q E h => ?_) (fun cdv A outer s H vs Q E hr h => ?_)
  · obtain ⟨r, rfl, _⟩ := h
    rfl
  · obtain ⟨r, rfl, q⟩ := h
    refine ⟨_, (pss_cons (ps_set (i := 1) S_numbers_at.nd rfl (Or.inl rfl) (pe_op op_fdiv (pv 0) (pe_glob (v := .int 3001) rfl T.c_WIDTH ⟨_, rfl⟩)))
      (pss_one (ps_ret (pe_tup (pa_cons (pe_op op_fdiv (pv 1) (pe_op op_pow pe_int pe_int)) (pa_cons (pe_op op_mod (pe_op op_fdiv (pv 1) (pe_op op_pow pe_int pe_int)) pe_int) (pa_cons (pe_op op_mod (pe_op op_fdiv (pv 1) pe_int) pe_int) (pa_cons (pe_op op_mod (pv 1) pe_int) pa_nil)))))))), ?_⟩
    refine ⟨_, rfl, _, _, rfl, rfl, ⟨by decide, by decide⟩, ?_⟩
    refine ⟨_, rfl, _, _, rfl, rfl, ⟨by decide, by decide, by decide⟩, _, _, rfl, rfl, ⟨by decide, by decide⟩, ?_⟩
    refine ⟨_, rfl, _, _, rfl, rfl, ⟨by decide, by decide, by decide⟩, _, _, rfl, rfl, ⟨by decide, by decide⟩, _, _, rfl, rfl, (posI rfl), ?_⟩
    refine ⟨_, rfl, _, _, rfl, rfl, ⟨by decide, by decide⟩, _, _, rfl, rfl, (posI rfl), _, rfl, _, _, rfl, rfl, (posI rfl), by show 4 ≤ sizeLine; decide, fun p hp => ?_⟩
    refine q p _ (same_new hp) hp ?_
    rw [upd_same]
    congr 2
def spTxN (K : PySem.W.Frag) : Sp := fun vs H Q _ => ∃ (a : Addr) (ns : List Nat), vs = [.ref a] ∧ SqT K H a (vN ns) ∧ ns ≠ [] ∧ ns.length ≤ 4 ∧ (∀ n ∈ ns, n < 1000) ∧ ∀ H', Same H H' → Q (.str (S (joinL [46] ((trim ns).map numL)))) H'
/-- a comprehension over a tuple -/
theorem lc_tpl {α : Type} {K : PySem.W.Frag} {a : Addr} (xs : List α) (emb : α → V) {g : TG} {tt : TT} {te : TE} {vs : List Nat} {σ : L2.St} {H1 : Hp} {D : Addr} {Qd : Hp → Prop} (p : α → Bool) (f : α → V) (hD : H1 D = none) (hz : xs.length < sizeLine)
    (ha : SqT K H1 a (xs.map emb))
    (hs : ∀ c, c ∈ xs → ∀ (H : Hp) (R : VK) (S : Hp → Prop), Same H1 H → (p c = true → ∀ H', Same H H' → R (f c) H') → (p c = false → ∀ H', Same H H' → S H') →
      g (emb c) (wipe σ vs) H fun σ2 H2 => wipe σ2 vs = wipe σ vs ∧ tt σ2 H2 fun b H3 => if b = true then te σ2 H3 R else S H3)
    (hd : ∀ H, Same H1 H → H D = some (.lst ((xs.filter p).map f)) → Qd H) :
    ∃ W : Nat → Nat → Hp → Prop, (∃ m, W 0 m (upd H1 D (.lst []))) ∧ ∀ i m H, W i m H →
      ((Itt K a).stop i H ∧ Qd H) ∨ ((Itt K a).go i H ∧ ∃ Nx : Hp → Prop, (∀ H', Nx H' → ∃ m', m' < m ∧ W (i + 1) m' H') ∧
        ∀ x H', (Itt K a).yld i H x H' → g x (wipe σ vs) H' fun σ2 H2 => wipe σ2 vs = wipe σ vs ∧ tt σ2 H2 fun b H3 =>
          if b = true then te σ2 H3 fun y H4 => ∃ acc, H4 D = some (.lst acc) ∧ acc.length < sizeLine ∧ Nx (upd H4 D (.lst (acc ++ [y]))) else Nx H3) :=
  lc_map (walk_tup (K := K) (a := a) (xs := xs.map emb)) xs emb (by simp)
    (fun i H x H' ⟨e, h⟩ => ⟨e, by
      rw [List.getElem?_map] at h
      cases q : xs[i]? with
      | none =>
        rw [q] at h
        cases h
      | some c =>
        rw [q] at h
        exact ⟨c, rfl, (Option.some.inj h).symm⟩⟩) p f hD (by simpa using hz) (fun H s => sqT_keep s ha) hs hd
theorem numL_len3 {n : Nat} (h : n < 1000) : (numL n).length ≤ 3 := numL_len (by decide) h
theorem sum_le : ∀ (xs : List Nat), (∀ n ∈ xs, n < 1000) → ((xs.map fun n => S (numL n)).map (·.length)).sum ≤ 3 * xs.length
  | [], _ => by simp
  | n :: r, h => by
    have ih := sum_le r fun m hm => h m (List.mem_cons_of_mem _ hm)
    have h1 := numL_len3 (h n (by simp))
    simp only [List.map_cons, List.sum_cons, List.length_cons, S_len]
    omega
theorem ok_text_of_numbers (T : Tex K mg D) : FnOk P w K mg base CX0 1 D.a_text_of_numbers D.d_text_of_numbers P_text_of_numbers (spTxN K) := by
  refine T.text_of_numbers_F.ok S_text_of_numbers (fun vs H Q E h => ?_) (fun cdv A outer s H vs Q E hr h => ?_)
  · obtain ⟨a, ns, rfl, _⟩ := h
    rfl
  · obtain ⟨a, ns, rfl, ha, hne, h4, hb, q⟩ := h
    have hln : (vN ns).length = ns.length := List.length_map _
    have hp1 : 1 ≤ ns.length := List.length_pos_iff.mpr hne
    refine ⟨_, (pss_cons (ps_set (i := 1) S_text_of_numbers.nd rfl (Or.inl rfl) (pe_callB call_len_seq (by rfl) T.b_len (by decide +kernel) (pa_cons (pv 0) pa_nil)))
      (pss_cons (ps_while PassesOwn.never (PW.pt (pw_and (pt_cmpR op_gt (pv 1) pe_int (nomark _)) (pw_and1 (pt_cmpR op_eq (pe_ix ix_tup (pv 0) (pe_op op_sub (pv 1) pe_int) (fun _ _ => rfl)) pe_int (nomark _))))) (pss_one (ps_aug (i := 1) S_text_of_numbers.nd rfl (Or.inl rfl) pe_int ip_sub)))
      (pss_one (ps_ret (pe_join pe_str (pe_lc (own := [(("number" : Str), 2)]) (g := gName 2) (tt := tYes) rfl S_text_of_numbers.nd (pi_tup (pe_slice sl_tupA (pv 0) po_none (po_some (pv 1)))) (blkOk_by (N := N_text_of_numbers) (sc := defScope s_text_of_numbers) (by decide +kernel)) (fun _ _ _ _ _ => pg_name (i := 2) S_text_of_numbers.nd rfl (Or.inl rfl)) (fun _ _ _ _ _ => pts_nil) (fun _ _ _ _ _ => (pe_callTy call_str_int (by rfl) T.b_str (by decide +kernel) (pa_cons (pv 2) pa_nil))))))))), ?_⟩
    refine ⟨_, rfl, a, _, rfl, .inr ha, ?_⟩
    rw [hln]
    refine ⟨fun m σ H' => H' = H ∧ σ = [some (.ref a), some (.int (m : Int)), none] ∧ 1 ≤ m ∧ m ≤ ns.length ∧ many ns m = many ns ns.length, ⟨ns.length, rfl, rfl, hp1, Nat.le_refl _, rfl⟩, ?_⟩
    rintro m σ H' ⟨rfl, rfl, m1, m2, m3⟩
    have fin : many ns m = m → trim ns = ns.take m := by
      intro e1
      unfold trim
      rw [← m3, e1]
    refine ⟨_, rfl, _, _, rfl, rfl, _, rfl, ?_⟩
    by_cases h1 : m = 1
    · rw [decide_eq_false (by omega)]
      refine iteF (iteF ?_)
      have et := fin (by rw [h1]; rfl)
      have hcl : (vN ns).length = ns.length := List.length_map _
      have esl : HT.sIx (vN ns).length (vN ns).length (some (m : Int)) = m := by
        rw [HT.sIx_nat, hcl]
        omega
      have ecv : cutV (vN ns) none (some (m : Int)) = vN (trim ns) := by
        unfold cutV
        rw [esl, show HT.sIx (vN ns).length 0 none = 0 from rfl, List.drop_zero, et]
        unfold vN
        rw [List.map_take, Nat.sub_zero]
      have htl : (trim ns).length ≤ 4 := by
        rw [et, List.length_take]
        omega
      have htb : ∀ n ∈ trim ns, n < 1000 := fun n hn => hb n (by
        rw [et] at hn
        exact List.mem_of_mem_take hn)
      refine ⟨⟨_, rfl⟩, _, rfl, _, rfl, _, rfl, a, _, rfl, ha, fun hw => ?_, fun hw p2 hp2 => ?_⟩
      · have hb2 : SqT K H' a (vN (trim ns)) := by
          rw [← ecv]
          unfold cutV
          rw [hw.1, hw.2, List.drop_zero, Nat.sub_zero, List.take_length]
          exact ha
        have s2 := Same.refl H'
        refine ⟨_, rfl, ⟨_, hb2⟩, fun DD hDD => lc_tpl (trim ns) (fun (n : Nat) => V.int (n : Int)) (fun _ => true) (fun n => .str (S (numL n))) hDD (szt (by omega)) hb2 (fun n hn H4 R S4 s4 g1 g2 => ?_) (fun H4 s4 h4' => ?_)⟩
        · refine ⟨rfl, _, rfl, _, rfl, log_num (by have := htb n hn; omega), ?_⟩
          rw [str_num]
          exact g1 rfl _ (Same.refl _)
        · rw [filt1] at h4'
          refine ⟨_, DD, (trim ns).map (fun n => S (numL n)), rfl, rfl, .inl (SqL.of (by rw [h4', List.map_map]; rfl)), ?_, ?_⟩
          · have h1 := sum_le (trim ns) htb
            rw [List.length_map]
            have h2 : (("." : String) : Str).length = 1 := rfl
            rw [h2]
            omega
          · have ej : Txt.join (("." : String) : Str) ((trim ns).map fun n => S (numL n)) = S (joinL [46] ((trim ns).map numL)) := by
              rw [dot_txt, ← join_S, List.map_map]
              rfl
            rw [ej]
            exact q _ (s2.trans s4)
      · have hb2 : SqT K (upd H' p2 (.tup (cutV (vN ns) none (some (m : Int))))) p2 (vN (trim ns)) := by
          rw [← ecv]
          exact sqT_of upd_same
        have s2 : Same H' (upd H' p2 (.tup (cutV (vN ns) none (some (m : Int))))) := same_new hp2
        revert hb2 s2
        generalize upd H' p2 (.tup (cutV (vN ns) none (some (m : Int)))) = H3
        intro hb2 s2
        refine ⟨_, rfl, ⟨_, hb2⟩, fun DD hDD => lc_tpl (trim ns) (fun (n : Nat) => V.int (n : Int)) (fun _ => true) (fun n => .str (S (numL n))) hDD (szt (by omega)) hb2 (fun n hn H4 R S4 s4 g1 g2 => ?_) (fun H4 s4 h4' => ?_)⟩
        · refine ⟨rfl, _, rfl, _, rfl, log_num (by have := htb n hn; omega), ?_⟩
          rw [str_num]
          exact g1 rfl _ (Same.refl _)
        · rw [filt1] at h4'
          refine ⟨_, DD, (trim ns).map (fun n => S (numL n)), rfl, rfl, .inl (SqL.of (by rw [h4', List.map_map]; rfl)), ?_, ?_⟩
          · have h1 := sum_le (trim ns) htb
            rw [List.length_map]
            have h2 : (("." : String) : Str).length = 1 := rfl
            rw [h2]
            omega
          · have ej : Txt.join (("." : String) : Str) ((trim ns).map fun n => S (numL n)) = S (joinL [46] ((trim ns).map numL)) := by
              rw [dot_txt, ← join_S, List.map_map]
              rfl
            rw [ej]
            exact q _ (s2.trans s4)
    · rw [decide_eq_true (by omega)]
      refine iteT ?_
      have hix : (m : Int) - 1 = ((m - 1 : Nat) : Int) := by omega
      have hlt : m - 1 < ns.length := by omega
      obtain ⟨z, hz⟩ : ∃ z, ns[m - 1]? = some z := ⟨_, List.getElem?_eq_getElem hlt⟩
      have hat : atI (vN ns) ((m : Int) - 1) = some (.int ((z : Nat) : Int)) := by
        rw [hix]
        refine atI_nat ?_
        unfold vN
        rw [List.getElem?_map, hz]
        rfl
      refine ⟨_, rfl, _, rfl, _, _, rfl, rfl, a, _, _, .int ((z : Nat) : Int), rfl, rfl, ha, hat, rfl, _, rfl, ?_⟩
      obtain ⟨j, hj⟩ : ∃ j, m = j + 2 := ⟨m - 2, by omega⟩
      have hz' : ns[j + 1]? = some z := by rw [show j + 1 = m - 1 by omega]; exact hz
      by_cases h0 : z = 0
      · rw [h0, decide_eq_true (show V.int ((0 : Nat) : Int) = V.int 0 from rfl)]
        rw [h0] at hz'
        refine iteT ⟨fun σ' H'' => H'' = H' ∧ σ' = [some (.ref a), some (.int ((j + 1 : Nat) : Int)), none], fun σ' H'' hh => ⟨j + 1, by omega, hh.1, hh.2, by omega, by omega, ?_⟩, ?_⟩
        · have e : many ns (j + 2) = many ns (j + 1) := by
            show (if ns[j + 1]? = some 0 then many ns (j + 1) else j + 2) = _
            rw [if_pos hz']
          rw [← e, ← hj]
          exact m3
        · refine ⟨_, rfl, _, _, rfl, rfl, rfl, ?_⟩
          have e : (m : Int) - 1 = ((j + 1 : Nat) : Int) := by omega
          show [some (V.ref a), some (V.int ((m : Int) - 1)), none] = _
          rw [e]
      · rw [decide_eq_false (by
          intro e
          injection e with e
          omega)]
        refine iteF ?_
        have et : trim ns = ns.take m := fin (by
          rw [hj]
          show (if ns[j + 1]? = some 0 then many ns (j + 1) else j + 2) = _
          rw [if_neg (by rw [hz']; intro e; exact h0 (Option.some.inj e))])
        have hcl : (vN ns).length = ns.length := List.length_map _
        have esl : HT.sIx (vN ns).length (vN ns).length (some (m : Int)) = m := by
          rw [HT.sIx_nat, hcl]
          omega
        have ecv : cutV (vN ns) none (some (m : Int)) = vN (trim ns) := by
          unfold cutV
          rw [esl, show HT.sIx (vN ns).length 0 none = 0 from rfl, List.drop_zero, et]
          unfold vN
          rw [List.map_take, Nat.sub_zero]
        have htl : (trim ns).length ≤ 4 := by
          rw [et, List.length_take]
          omega
        have htb : ∀ n ∈ trim ns, n < 1000 := fun n hn => hb n (by
          rw [et] at hn
          exact List.mem_of_mem_take hn)
        refine ⟨⟨_, rfl⟩, _, rfl, _, rfl, _, rfl, a, _, rfl, ha, fun hw => ?_, fun hw p2 hp2 => ?_⟩
        · have hb2 : SqT K H' a (vN (trim ns)) := by
            rw [← ecv]
            unfold cutV
            rw [hw.1, hw.2, List.drop_zero, Nat.sub_zero, List.take_length]
            exact ha
          have s2 := Same.refl H'
          refine ⟨_, rfl, ⟨_, hb2⟩, fun DD hDD => lc_tpl (trim ns) (fun (n : Nat) => V.int (n : Int)) (fun _ => true) (fun n => .str (S (numL n))) hDD (szt (by omega)) hb2 (fun n hn H4 R S4 s4 g1 g2 => ?_) (fun H4 s4 h4' => ?_)⟩
          · refine ⟨rfl, _, rfl, _, rfl, log_num (by have := htb n hn; omega), ?_⟩
            rw [str_num]
            exact g1 rfl _ (Same.refl _)
          · rw [filt1] at h4'
            refine ⟨_, DD, (trim ns).map (fun n => S (numL n)), rfl, rfl, .inl (SqL.of (by rw [h4', List.map_map]; rfl)), ?_, ?_⟩
            · have h1 := sum_le (trim ns) htb
              rw [List.length_map]
              have h2 : (("." : String) : Str).length = 1 := rfl
              rw [h2]
              omega
            · have ej : Txt.join (("." : String) : Str) ((trim ns).map fun n => S (numL n)) = S (joinL [46] ((trim ns).map numL)) := by
                rw [dot_txt, ← join_S, List.map_map]
                rfl
              rw [ej]
              exact q _ (s2.trans s4)
        · have hb2 : SqT K (upd H' p2 (.tup (cutV (vN ns) none (some (m : Int))))) p2 (vN (trim ns)) := by
            rw [← ecv]
            exact sqT_of upd_same
          have s2 : Same H' (upd H' p2 (.tup (cutV (vN ns) none (some (m : Int))))) := same_new hp2
          revert hb2 s2
          generalize upd H' p2 (.tup (cutV (vN ns) none (some (m : Int)))) = H3
          intro hb2 s2
          refine ⟨_, rfl, ⟨_, hb2⟩, fun DD hDD => lc_tpl (trim ns) (fun (n : Nat) => V.int (n : Int)) (fun _ => true) (fun n => .str (S (numL n))) hDD (szt (by omega)) hb2 (fun n hn H4 R S4 s4 g1 g2 => ?_) (fun H4 s4 h4' => ?_)⟩
          · refine ⟨rfl, _, rfl, _, rfl, log_num (by have := htb n hn; omega), ?_⟩
            rw [str_num]
            exact g1 rfl _ (Same.refl _)
          · rw [filt1] at h4'
            refine ⟨_, DD, (trim ns).map (fun n => S (numL n)), rfl, rfl, .inl (SqL.of (by rw [h4', List.map_map]; rfl)), ?_, ?_⟩
            · have h1 := sum_le (trim ns) htb
              rw [List.length_map]
              have h2 : (("." : String) : Str).length = 1 := rfl
              rw [h2]
              omega
            · have ej : Txt.join (("." : String) : Str) ((trim ns).map fun n => S (numL n)) = S (joinL [46] ((trim ns).map numL)) := by
                rw [dot_txt, ← join_S, List.map_map]
                rfl
              rw [ej]
              exact q _ (s2.trans s4)
end

/-! ## Versions: the class -/
section
variable {P : Program} {w : World} {K : PySem.W.Frag} {mg : Str → Option Value} {base : Heap} {D : Ad}
open TL SX
theorem wd_len (i : Nat) : (wd i).length ≤ 2 := by
  match i with
  | 0 => simp [wd]
  | 1 => simp [wd]
  | n + 2 => simp [wd]
theorem stN_wd {i : Nat} (h : i < 3) : stN[i]? = some (.str (S (wd i))) := by
  match i, h with
  | 0, _ => rw [← wd_txt.1]; rfl
  | 1, _ => rw [← wd_txt.2.1]; rfl
  | 2, _ => rw [← wd_txt.2.2]; rfl
def spTxSt : Sp := fun vs H Q _ => ∃ st : Nat, vs = [.int (st : Int)] ∧ st ≤ 3000 ∧ Q (.str (S (stg st))) H
theorem ok_text_of_stage (T : Tex K mg D) : FnOk P w K mg base CX0 1 D.a_text_of_stage D.d_text_of_stage P_text_of_stage spTxSt := by
  refine T.text_of_stage_F.ok S_text_of_stage (fun vs H Q E h => ?_) (fun cdv A outer s H vs Q E hr h => ?_)
  · obtain ⟨st, rfl, _⟩ := h
    rfl
  · obtain ⟨st, rfl, hs, q⟩ := h
    refine ⟨_, (pss_cons (ps_if (pt_cmpR op_eq (pv 0) (pe_glob (v := .int 3000) rfl T.c_FINAL ⟨_, rfl⟩) (nomark _)) (pss_one (ps_ret pe_str)) pss_nil)
      (pss_one (ps_ret (pe_joined (.cons (pe_fmt (pe_ix ix_tup (pe_glob (v := .ref D.k_STAGES) rfl T.c_STAGES rfl) (pe_op op_fdiv (pv 0) pe_int) (fun _ _ => rfl))) (.cons (pe_fmt (pe_op op_mod (pv 0) pe_int)) .nil)))))), ?_⟩
    refine ⟨_, rfl, rfl, _, rfl, ?_⟩
    by_cases h3 : st = 3000
    · subst h3
      rw [decide_eq_true (show V.int ((3000 : Nat) : Int) = V.int 3000 from rfl)]
      exact iteT q
    · rw [decide_eq_false (by
        intro e
        injection e with e
        omega)]
      have hlt : st / 1000 < 3 := by omega
      have hat : atI stN ((st : Int) / 1000) = some (.str (S (wd (st / 1000)))) := by
        rw [show (st : Int) / 1000 = ((st / 1000 : Nat) : Int) by omega]
        exact atI_nat (stN_wd hlt)
      have e0 : stg st = wd (st / 1000) ++ numL (st % 1000) := if_neg h3
      have hl := wd_len (st / 1000)
      have hn := numL_len3 (show st % 1000 < 1000 by omega)
      refine iteF ⟨_, rfl, _, _, rfl, rfl, ⟨by decide, by decide⟩, D.k_STAGES, stN, _, _, rfl, rfl, stK T _, hat, .inl ⟨_, rfl, ?_, ?_⟩⟩
      · rw [S_len]
        exact szl (by omega)
      · have e1 : Str.empty ++ S (wd (st / 1000)) = S (wd (st / 1000)) := S_cat [] _
        refine ⟨_, rfl, ?_, ?_⟩
        · rw [e1, S_len]
          exact szl (by omega)
        · refine ⟨_, rfl, _, _, rfl, rfl, (posI rfl), .inr ⟨_, rfl, ?_, ?_⟩⟩
          · rw [show (st : Int) % 1000 = ((st % 1000 : Nat) : Int) by omega]
            exact log_num (by omega)
          · rw [show (st : Int) % 1000 = ((st % 1000 : Nat) : Int) by omega]
            rw [e1, str_num]
            refine ⟨_, rfl, ?_, ?_⟩
            · rw [S_cat, S_len, List.length_append]
              exact szl (by omega)
            · rw [S_cat, ← e0]
              exact q
theorem n4_trim_len (r : Nat) : (trim (n4 r)).length ≤ 4 := by
  rw [trim_len]
  exact many_le (n4 r) 4
theorem join_len : ∀ {figs : List Nat}, (∀ n ∈ figs, n < 1000) → (joinL [46] (figs.map numL)).length ≤ 4 * figs.length
  | [], _ => by simp [joinL]
  | [n], h => by
    have := numL_len3 (h n (by simp))
    show (numL n).length ≤ _
    simp only [List.length_cons, List.length_nil]
    omega
  | n :: m :: r, h => by
    have h1 := numL_len3 (h n (by simp))
    have ih := join_len (figs := m :: r) fun x hx => h x (List.mem_cons_of_mem _ hx)
    show (numL n ++ ([46] ++ joinL [46] ((m :: r).map numL))).length ≤ _
    rw [List.length_append, List.length_append]
    simp only [List.length_cons, List.length_nil] at ih ⊢
    omega
theorem stg_len (st : Nat) : (stg st).length ≤ 5 := by
  unfold stg
  split
  · simp
  · rw [List.length_append]
    have h1 := wd_len (st / 1000)
    have h2 := numL_len3 (show st % 1000 < 1000 by omega)
    omega
theorem wrt_len {figs : List Nat} {st : Nat} (hb : ∀ n ∈ figs, n < 1000) : (wrt figs st).length ≤ 4 * figs.length + 5 := by
  unfold wrt
  rw [List.length_append]
  have h1 := join_len hb
  have h2 := stg_len st
  omega
theorem tA_len {r : Nat} (h : r ≤ 3000999999999999) : (tA r).length ≤ 100 := by
  have h1 := wrt_len (figs := trim (n4 r)) (st := r % 3001) (fun n hn => n4_lt h n (List.mem_of_mem_take hn))
  have h2 := n4_trim_len r
  unfold tA
  omega
def spTA : Sp := fun vs H Q _ => ∃ r : Nat, vs = [.int (r : Int)] ∧ r ≤ LAST ∧ ∀ H', Same H H' → Q (.str (S (tA r))) H'
theorem ok_text_at (T : Tex K mg D) : FnOk P w K mg base CX0 2 D.a_text_at D.d_text_at P_text_at spTA := by
  have G_numbers_at : FnOk P w K mg base CX0 1 D.a_numbers_at D.d_numbers_at P_numbers_at spN4 := ok_numbers_at T
  have G_text_of_numbers : FnOk P w K mg base CX0 1 D.a_text_of_numbers D.d_text_of_numbers P_text_of_numbers (spTxN K) := ok_text_of_numbers T
  have G_text_of_stage : FnOk P w K mg base CX0 1 D.a_text_of_stage D.d_text_of_stage P_text_of_stage spTxSt := ok_text_of_stage T
  refine T.text_at_F.ok S_text_at (fun vs H Q E h => ?_) (fun cdv A outer s H vs Q E hr h => ?_)
  · obtain ⟨r, rfl, _⟩ := h
    rfl
  · obtain ⟨r, rfl, hl, q⟩ := h
    refine ⟨_, (pss_one (ps_ret (pe_op op_add_str (pe_call G_text_of_numbers (hr.mono (by decide)) (by rfl) T.text_of_numbers_g T.text_of_numbers_F.kp T.text_of_numbers_b .nil pass0 (pa_cons (pe_call G_numbers_at (hr.mono (by decide)) (by rfl) T.numbers_at_g T.numbers_at_F.kp T.numbers_at_b .nil pass0 (pa_cons (pv 0) pa_nil)) pa_nil)) (pe_call G_text_of_stage (hr.mono (by decide)) (by rfl) T.text_of_stage_g T.text_of_stage_F.kp T.text_of_stage_b .nil pass0 (pa_cons (pe_op op_mod (pv 0) (pe_glob (v := .int 3001) rfl T.c_WIDTH ⟨_, rfl⟩)) pa_nil))))), ?_⟩
    refine ⟨_, rfl, r, rfl, fun p H1 s1 hp hp' => ⟨p, n4 r, rfl, sqT_of hp', by simp [n4], by simp [n4], n4_lt hl, fun H2 s2 => ?_⟩⟩
    refine ⟨_, rfl, _, _, rfl, rfl, (posI rfl), r % 3001, ?_, by omega, ?_⟩
    · show [V.int ((r : Int) % 3001)] = _
      rw [show (r : Int) % 3001 = ((r % 3001 : Nat) : Int) by omega]
    · have h1 := join_len (figs := trim (n4 r)) fun n hn => n4_lt hl n (List.mem_of_mem_take hn)
      have h2 := n4_trim_len r
      have h3 := stg_len (r % 3001)
      refine ⟨_, _, rfl, rfl, ?_, ?_⟩
      · rw [S_len, S_len]
        exact szl (by omega)
      · rw [S_cat]
        exact q H2 (s1.trans s2)
def spWhole : Sp := fun vs H Q _ => ∃ i : Int, vs = [.int i] ∧ Q (.bl true) H
theorem ok_is_whole (T : Tex K mg D) : FnOk P w K mg base CX0 1 D.a_is_whole D.d_is_whole P_is_whole spWhole := by
  refine T.is_whole_F.ok S_is_whole (fun vs H Q E h => ?_) (fun cdv A outer s H vs Q E hr h => ?_)
  · obtain ⟨i, rfl, _⟩ := h
    rfl
  · obtain ⟨i, rfl, q⟩ := h
    refine ⟨_, (pss_one (ps_ret (pe_and (pe_callB call_isi (by rfl) T.b_isinstance (by decide +kernel) (pa_cons (pv 0) (pa_cons (pe_bltn (v := .ty "int") (u := .type "int") (by rfl) T.b_int (by decide +kernel) rfl) pa_nil))) (pe_one (pe_not (pe_callB call_isi (by rfl) T.b_isinstance (by decide +kernel) (pa_cons (pv 0) (pa_cons (pe_bltn (v := .ty "bool") (u := .type "bool") (by rfl) T.b_bool (by decide +kernel) rfl) pa_nil)))))))), ?_⟩
    refine ⟨_, rfl, .int i, .ty "int", .type "int", .type "int", true, rfl, .ty _, .base (.int i), kit_ty (by decide +kernel), true, rfl, iteT ?_⟩
    refine ⟨_, rfl, .int i, .ty "bool", .type "int", .type "bool", false, rfl, .ty _, .base (.int i), kit_ty (by decide +kernel), false, rfl, q⟩
def spCnt : Sp := fun vs H Q _ => ∃ i : Int, vs = [.int i] ∧ Q (.bl (decide (0 ≤ i))) H
theorem ok_is_count (T : Tex K mg D) : FnOk P w K mg base CX0 2 D.a_is_count D.d_is_count P_is_count spCnt := by
  have G_is_whole : FnOk P w K mg base CX0 1 D.a_is_whole D.d_is_whole P_is_whole spWhole := ok_is_whole T
  refine T.is_count_F.ok S_is_count (fun vs H Q E h => ?_) (fun cdv A outer s H vs Q E hr h => ?_)
  · obtain ⟨i, rfl, _⟩ := h
    rfl
  · obtain ⟨i, rfl, q⟩ := h
    refine ⟨_, (pss_one (ps_ret (pe_and (pe_call G_is_whole (hr.mono (by decide)) (by rfl) T.is_whole_g T.is_whole_F.kp T.is_whole_b .nil pass0 (pa_cons (pv 0) pa_nil)) (pe_one (pe_cmpR op_ge (pv 0) pe_int (nomark _)))))), ?_⟩
    exact ⟨_, rfl, i, rfl, true, rfl, iteT ⟨_, rfl, _, _, rfl, rfl, q⟩⟩
def spWTo : Sp := fun vs H Q _ => ∃ i l : Int, vs = [.int i, .int l] ∧ 0 ≤ i ∧ i ≤ l ∧ Q (.bl true) H
theorem ok_is_whole_to (T : Tex K mg D) : FnOk P w K mg base CX0 3 D.a_is_whole_to D.d_is_whole_to P_is_whole_to spWTo := by
  have G_is_count : FnOk P w K mg base CX0 2 D.a_is_count D.d_is_count P_is_count spCnt := ok_is_count T
  refine T.is_whole_to_F.ok S_is_whole_to (fun vs H Q E h => ?_) (fun cdv A outer s H vs Q E hr h => ?_)
  · obtain ⟨i, l, rfl, _⟩ := h
    rfl
  · obtain ⟨i, l, rfl, h0, h1, q⟩ := h
    refine ⟨_, (pss_one (ps_ret (pe_and (pe_call G_is_count (hr.mono (by decide)) (by rfl) T.is_count_g T.is_count_F.kp T.is_count_b .nil pass0 (pa_cons (pv 0) pa_nil)) (pe_one (pe_cmpR op_le (pv 0) (pv 1) (nomark _)))))), ?_⟩
    refine ⟨_, rfl, i, rfl, ?_⟩
    rw [decide_eq_true h0]
    refine ⟨true, rfl, iteT ⟨_, rfl, _, rfl, _, _, rfl, rfl, ?_⟩⟩
    show Q (.bl (decide (i ≤ l))) H
    rw [decide_eq_true h1]
    exact q

/-! ### the object -/
def Ver (C : Addr) (H : Hp) (a : Addr) (r : Nat) : Prop := ∃ dx, H a = some (.ins C dx [("_rank", .int (r : Int))])
theorem Ver.keep {C a : Addr} {H H' : Hp} {r : Nat} (h : Ver C H a r) (e : Same H H') : Ver C H' a r := let ⟨dx, h⟩ := h; ⟨dx, e _ _ h⟩
theorem lk_rank (v : V) : List.lookup ("_rank" : Str) [(("_rank" : Str), v)] = some v := by simp [List.lookup]
def spInit (C : Addr) : Sp := fun vs H Q _ => ∃ (x dx : Addr) (l ns : List Nat) (st : Nat), vs = [.ref x, .str (S l)] ∧ H x = some (.ins C dx []) ∧ l.length ≤ 80000 ∧ pT l = some (ns, st) ∧ ns ≠ [] ∧ ns.length ≤ 4 ∧
  ∀ H1, Same H H1 → Q .non (upd H1 x (.ins C dx [("_rank", .int (rk ns st : Nat))]))
theorem ok_Version_init (T : Tex K mg D) : FnOk P w K mg base CX0 6 D.a_Version_init D.d_Version_init P_Version_init (spInit D.a_Version) := by
  have G_parts_of_text : FnOk P w K mg base CX0 5 D.a_parts_of_text D.d_parts_of_text P_parts_of_text spParts := ok_parts_of_text T
  have G_rank_of : FnOk P w K mg base CX0 1 D.a_rank_of D.d_rank_of P_rank_of (spRank K) := ok_rank_of T
  refine T.Version_init_F.ok S_Version_init (fun vs H Q E h => ?_) (fun cdv A outer s H vs Q E hr h => ?_)
  · obtain ⟨x, dx, l, ns, st, rfl, _⟩ := h
    rfl
  · obtain ⟨x, dx, l, ns, st, rfl, hx, hl, hp, hne, h4, q⟩ := h
    refine ⟨_, (pss_cons (ps_set (i := 2) S_Version_init.nd rfl (Or.inl rfl) (pe_call G_parts_of_text (hr.mono (by decide)) (by rfl) T.parts_of_text_g T.parts_of_text_F.kp T.parts_of_text_b .nil pass0 (pa_cons (pv 1) pa_nil)))
      (pss_cons (ps_if (pt_cmpR op_isN (pv 2) pe_non (nomark _)) (pss_one ps_never) pss_nil)
      (pss_cons (ps_asg (pv 2) (pg_tup (by rfl) (pgs_cons (pg_name (i := 3) S_Version_init.nd rfl (Or.inl rfl)) (pgs_cons (pg_name (i := 4) S_Version_init.nd rfl (Or.inl rfl)) pgs_nil))))
      (pss_one (ps_fld (pv 0) (pe_call G_rank_of (hr.mono (by decide)) (by rfl) T.rank_of_g T.rank_of_F.kp T.rank_of_b .nil pass0 (pa_cons (pv 3) (pa_cons (pv 4) pa_nil))) rfl))))), ?_⟩
    refine ⟨_, rfl, l, rfl, hl, fun e => (by rw [hp] at e; cases e), fun ns' st' e p t H1 s1 hpf hp' ht' => ?_⟩
    rw [hp] at e
    cases e
    refine ⟨_, rfl, rfl, _, rfl, iteF ?_⟩
    refine ⟨_, rfl, p, _, rfl, .inl (.inl hp'), rfl, _, _, rfl, _, _, rfl, rfl, ?_⟩
    refine ⟨_, rfl, _, rfl, t, ns, st, rfl, sqT_of ht', hne, Nat.le_trans h4 (by decide), fun H2 s2 => ?_⟩
    exact ⟨_, rfl, x, _, dx, [], rfl, s2 _ _ (s1 _ _ hx), T.Version_cl, T.Version_n_rank, by decide, q H2 (s1.trans s2)⟩
/-- what the making of a version leaves -/
theorem make_same {H H1 : Hp} {C x dx : Addr} {fs : List (Str × V)} (hx : H x = none) (hd : H dx = none) (s : Same (upd (upd H dx (.own x)) x (.ins C dx [])) H1) : Same H (upd H1 x (.ins C dx fs)) := by
  intro b o e
  have n1 : b ≠ x := ne_of_none e hx
  have n2 : b ≠ dx := ne_of_none e hd
  rw [upd_ne n1]
  refine s b o ?_
  rw [upd_ne n1, upd_ne n2]
  exact e
def spAt (C : Addr) : Sp := fun vs H Q _ => ∃ r : Nat, vs = [.ref C, .int (r : Int)] ∧ r ≤ LAST ∧ ∀ a H', Same H H' → H a = none → Ver C H' a r → Q (.ref a) H'
theorem ok_Version_at (T : Tex K mg D) : FnOk P w K mg base CX0 8 D.a_Version_at D.d_Version_at P_Version_at (spAt D.a_Version) := by
  have G_is_whole_to : FnOk P w K mg base CX0 3 D.a_is_whole_to D.d_is_whole_to P_is_whole_to spWTo := ok_is_whole_to T
  have G_text_at : FnOk P w K mg base CX0 2 D.a_text_at D.d_text_at P_text_at spTA := ok_text_at T
  have G_Version_init : FnOk P w K mg base CX0 6 D.a_Version_init D.d_Version_init P_Version_init (spInit D.a_Version) := ok_Version_init T
  refine T.Version_at_F.ok S_Version_at (fun vs H Q E h => ?_) (fun cdv A outer s H vs Q E hr h => ?_)
  · obtain ⟨r, rfl, _⟩ := h
    rfl
  · obtain ⟨r, rfl, hl, q⟩ := h
    refine ⟨_, (pss_cons (ps_if (pt_not (pt_val (pe_call G_is_whole_to (hr.mono (by decide)) (by rfl) T.is_whole_to_g T.is_whole_to_F.kp T.is_whole_to_b .nil pass0 (pa_cons (pv 1) (pa_cons (ClX.pe_cval (pv 0)) pa_nil))))) (pss_one ps_never) pss_nil)
      (pss_one (ps_ret (pe_makeL (i := 0) T.Version_mk G_Version_init (hr.mono (by decide)) rfl (Or.inl rfl) T.Version_init_b pass0 (pa_cons (pe_call G_text_at (hr.mono (by decide)) (by rfl) T.text_at_g T.text_at_F.kp T.text_at_b .nil pass0 (pa_cons (pv 1) pa_nil)) pa_nil))))), ?_⟩
    have hl' : (r : Int) ≤ 3000999999999999 := by
      have : r ≤ 3000999999999999 := hl
      omega
    refine ⟨_, rfl, _, rfl, D.a_Version, _, _, _, rfl, T.Version_rd, T.Version_LAST, _, _, rfl, by omega, hl', _, rfl, iteF ?_⟩
    refine ⟨rfl, _, rfl, r, rfl, hl, fun H1 s1 => fun x dx hx hd _ => ?_⟩
    refine ⟨x, dx, tA r, _, _, rfl, upd_same, by have := tA_len hl; omega, pT_tA hl, ?_, n4_trim_len r, fun H2 s2 => ⟨rfl, ?_⟩⟩
    · intro e
      have h1 := trim_len (n4 r)
      rw [e] at h1
      have h2 := many_pos (n4 r) 4 (by decide)
      have h3 : (n4 r).length = 4 := rfl
      rw [h3] at h1
      simp only [List.length_nil] at h1
      omega
    · rw [rk_trim hl]
      exact q x _ (s1.trans (make_same hx hd s2)) (s1.free hx) ⟨dx, upd_same⟩
def spRk (C : Addr) : Sp := fun vs H Q _ => ∃ (a : Addr) (r : Nat), vs = [.ref a] ∧ Ver C H a r ∧ Q (.int (r : Int)) H
theorem ok_Version_rank (T : Tex K mg D) : FnOk P w K mg base CX0 1 D.a_Version_rank D.d_Version_rank P_Version_rank (spRk D.a_Version) := by
  refine T.Version_rank_F.ok S_Version_rank (fun vs H Q E h => ?_) (fun cdv A outer s H vs Q E hr h => ?_)
  · obtain ⟨a, r, rfl, _⟩ := h
    rfl
  · obtain ⟨a, r, rfl, ⟨dx, ha⟩, q⟩ := h
    exact ⟨_, (pss_one (ps_ret (pe_fld (pv 0) rfl))), _, rfl, a, _, dx, _, _, rfl, ha, T.Version_cl, T.Version_n_rank, lk_rank _, q⟩
end

/-! ## Versions compared and written -/
section
variable {P : Program} {w : World} {K : PySem.W.Frag} {mg : Str → Option Value} {base : Heap} {D : Ad}
open TL SX
def spEq (K : PySem.W.Frag) (C : Addr) : Sp := fun vs H Q _ => ∃ (a : Addr) (r : Nat) (y : V), vs = [.ref a, y] ∧ Ver C H a r ∧
  ((∃ b s, y = .ref b ∧ Ver C H b s ∧ Q (.bl (decide (r = s))) H) ∨ ∃ t, TyX K H y t ∧ PySem.W.kitOne K t (.ref C) = some false ∧ Q (.bl false) H)
theorem ok_Version_eq (T : Tex K mg D) : FnOk P w K mg base CX0 1 D.a_Version_eq D.d_Version_eq P_Version_eq (spEq K D.a_Version) := by
  refine T.Version_eq_F.ok S_Version_eq (fun vs H Q E h => ?_) (fun cdv A outer s H vs Q E hr h => ?_)
  · obtain ⟨a, r, y, rfl, _⟩ := h
    rfl
  · obtain ⟨a, r, y, rfl, ⟨dx, ha⟩, q⟩ := h
    refine ⟨_, (pss_one (ps_ret (pe_and (pe_callB call_isi (by rfl) T.b_isinstance (by decide +kernel) (pa_cons (pv 1) (pa_cons (pe_glob (v := .ref D.a_Version) rfl T.Version_g rfl) pa_nil))) (pe_one (pe_cmpR op_eq (pe_fld (pv 0) rfl) (pe_fld (pv 1) rfl) (nomark _)))))), ?_⟩
    rcases q with ⟨b, s', rfl, ⟨dy, hb⟩, q⟩ | ⟨t, ty, hk, q⟩
    · refine ⟨_, rfl, _, _, _, _, true, rfl, .own _, .base (.ins hb T.Version_cl T.Version_si.ca T.Version_si.cn T.Version_si.ct T.Version_si.cm), kit_self, true, rfl, iteT ?_⟩
      refine ⟨_, rfl, a, _, dx, _, _, rfl, ha, T.Version_cl, T.Version_n_rank, lk_rank _, _, rfl, b, _, dy, _, _, rfl, hb, T.Version_cl, T.Version_n_rank, lk_rank _, rfl, ?_⟩
      have e : decide (V.int ((r : Nat) : Int) = V.int ((s' : Nat) : Int)) = decide (r = s') := decide_eq_decide.mpr (by
        constructor
        · intro e
          injection e with e
          omega
        · rintro rfl
          rfl)
      rw [e]
      exact q
    · exact ⟨_, rfl, _, _, _, _, false, rfl, .own _, ty, hk, false, rfl, iteF q⟩
def spCmp (C : Addr) (f : Nat → Nat → Bool) : Sp := fun vs H Q _ => ∃ (a b : Addr) (r s : Nat), vs = [.ref a, .ref b] ∧ Ver C H a r ∧ Ver C H b s ∧ Q (.bl (f r s)) H
theorem ok_Version_lt (T : Tex K mg D) : FnOk P w K mg base CX0 1 D.a_Version_lt D.d_Version_lt P_Version_lt (spCmp D.a_Version fun r s => decide (r < s)) := by
  refine T.Version_lt_F.ok S_Version_lt (fun vs H Q E h => ?_) (fun cdv A outer s H vs Q E hr h => ?_)
  · obtain ⟨a, b, r, s, rfl, _⟩ := h
    rfl
  · obtain ⟨a, b, r, s', rfl, ⟨dx, ha⟩, ⟨dy, hb⟩, q⟩ := h
    refine ⟨_, (pss_cons (ps_if (pt_not (pt_val (pe_callB call_isi (by rfl) T.b_isinstance (by decide +kernel) (pa_cons (pv 1) (pa_cons (pe_glob (v := .ref D.a_Version) rfl T.Version_g rfl) pa_nil))))) (pss_one ps_never) pss_nil)
      (pss_one (ps_ret (pe_cmpR op_lt (pe_fld (pv 0) rfl) (pe_fld (pv 1) rfl) (nomark _))))), ?_⟩
    refine ⟨_, rfl, _, _, _, _, true, rfl, .own _, .base (.ins hb T.Version_cl T.Version_si.ca T.Version_si.cn T.Version_si.ct T.Version_si.cm), kit_self, _, rfl, iteF ?_⟩
    refine ⟨_, rfl, a, _, dx, _, _, rfl, ha, T.Version_cl, T.Version_n_rank, lk_rank _, _, rfl, b, _, dy, _, _, rfl, hb, T.Version_cl, T.Version_n_rank, lk_rank _, _, _, rfl, rfl, ?_⟩
    have e : decide (((r : Nat) : Int) < ((s' : Nat) : Int)) = decide (r < s') := decide_eq_decide.mpr (by omega)
    show Q (.bl (decide (((r : Nat) : Int) < ((s' : Nat) : Int)))) H
    rw [e]
    exact q
theorem ok_Version_le (T : Tex K mg D) : FnOk P w K mg base CX0 1 D.a_Version_le D.d_Version_le P_Version_le (spCmp D.a_Version fun r s => decide (r ≤ s)) := by
  refine T.Version_le_F.ok S_Version_le (fun vs H Q E h => ?_) (fun cdv A outer s H vs Q E hr h => ?_)
  · obtain ⟨a, b, r, s, rfl, _⟩ := h
    rfl
  · obtain ⟨a, b, r, s', rfl, ⟨dx, ha⟩, ⟨dy, hb⟩, q⟩ := h
    refine ⟨_, (pss_cons (ps_if (pt_not (pt_val (pe_callB call_isi (by rfl) T.b_isinstance (by decide +kernel) (pa_cons (pv 1) (pa_cons (pe_glob (v := .ref D.a_Version) rfl T.Version_g rfl) pa_nil))))) (pss_one ps_never) pss_nil)
      (pss_one (ps_ret (pe_cmpR op_le (pe_fld (pv 0) rfl) (pe_fld (pv 1) rfl) (nomark _))))), ?_⟩
    refine ⟨_, rfl, _, _, _, _, true, rfl, .own _, .base (.ins hb T.Version_cl T.Version_si.ca T.Version_si.cn T.Version_si.ct T.Version_si.cm), kit_self, _, rfl, iteF ?_⟩
    refine ⟨_, rfl, a, _, dx, _, _, rfl, ha, T.Version_cl, T.Version_n_rank, lk_rank _, _, rfl, b, _, dy, _, _, rfl, hb, T.Version_cl, T.Version_n_rank, lk_rank _, _, _, rfl, rfl, ?_⟩
    have e : decide (((r : Nat) : Int) ≤ ((s' : Nat) : Int)) = decide (r ≤ s') := decide_eq_decide.mpr (by omega)
    show Q (.bl (decide (((r : Nat) : Int) ≤ ((s' : Nat) : Int)))) H
    rw [e]
    exact q
theorem ok_Version_gt (T : Tex K mg D) : FnOk P w K mg base CX0 1 D.a_Version_gt D.d_Version_gt P_Version_gt (spCmp D.a_Version fun r s => decide (r > s)) := by
  refine T.Version_gt_F.ok S_Version_gt (fun vs H Q E h => ?_) (fun cdv A outer s H vs Q E hr h => ?_)
  · obtain ⟨a, b, r, s, rfl, _⟩ := h
    rfl
  · obtain ⟨a, b, r, s', rfl, ⟨dx, ha⟩, ⟨dy, hb⟩, q⟩ := h
    refine ⟨_, (pss_cons (ps_if (pt_not (pt_val (pe_callB call_isi (by rfl) T.b_isinstance (by decide +kernel) (pa_cons (pv 1) (pa_cons (pe_glob (v := .ref D.a_Version) rfl T.Version_g rfl) pa_nil))))) (pss_one ps_never) pss_nil)
      (pss_one (ps_ret (pe_cmpR op_gt (pe_fld (pv 0) rfl) (pe_fld (pv 1) rfl) (nomark _))))), ?_⟩
    refine ⟨_, rfl, _, _, _, _, true, rfl, .own _, .base (.ins hb T.Version_cl T.Version_si.ca T.Version_si.cn T.Version_si.ct T.Version_si.cm), kit_self, _, rfl, iteF ?_⟩
    refine ⟨_, rfl, a, _, dx, _, _, rfl, ha, T.Version_cl, T.Version_n_rank, lk_rank _, _, rfl, b, _, dy, _, _, rfl, hb, T.Version_cl, T.Version_n_rank, lk_rank _, _, _, rfl, rfl, ?_⟩
    have e : decide (((r : Nat) : Int) > ((s' : Nat) : Int)) = decide (r > s') := decide_eq_decide.mpr (by omega)
    show Q (.bl (decide (((r : Nat) : Int) > ((s' : Nat) : Int)))) H
    rw [e]
    exact q
theorem ok_Version_ge (T : Tex K mg D) : FnOk P w K mg base CX0 1 D.a_Version_ge D.d_Version_ge P_Version_ge (spCmp D.a_Version fun r s => decide (r ≥ s)) := by
  refine T.Version_ge_F.ok S_Version_ge (fun vs H Q E h => ?_) (fun cdv A outer s H vs Q E hr h => ?_)
  · obtain ⟨a, b, r, s, rfl, _⟩ := h
    rfl
  · obtain ⟨a, b, r, s', rfl, ⟨dx, ha⟩, ⟨dy, hb⟩, q⟩ := h
    refine ⟨_, (pss_cons (ps_if (pt_not (pt_val (pe_callB call_isi (by rfl) T.b_isinstance (by decide +kernel) (pa_cons (pv 1) (pa_cons (pe_glob (v := .ref D.a_Version) rfl T.Version_g rfl) pa_nil))))) (pss_one ps_never) pss_nil)
      (pss_one (ps_ret (pe_cmpR op_ge (pe_fld (pv 0) rfl) (pe_fld (pv 1) rfl) (nomark _))))), ?_⟩
    refine ⟨_, rfl, _, _, _, _, true, rfl, .own _, .base (.ins hb T.Version_cl T.Version_si.ca T.Version_si.cn T.Version_si.ct T.Version_si.cm), kit_self, _, rfl, iteF ?_⟩
    refine ⟨_, rfl, a, _, dx, _, _, rfl, ha, T.Version_cl, T.Version_n_rank, lk_rank _, _, rfl, b, _, dy, _, _, rfl, hb, T.Version_cl, T.Version_n_rank, lk_rank _, _, _, rfl, rfl, ?_⟩
    have e : decide (((r : Nat) : Int) ≥ ((s' : Nat) : Int)) = decide (r ≥ s') := decide_eq_decide.mpr (by omega)
    show Q (.bl (decide (((r : Nat) : Int) ≥ ((s' : Nat) : Int)))) H
    rw [e]
    exact q
def spStr (C : Addr) : Sp := fun vs H Q _ => ∃ (a : Addr) (r : Nat), vs = [.ref a] ∧ Ver C H a r ∧ r ≤ LAST ∧ ∀ H', Same H H' → Q (.str (S (tA r))) H'
theorem ok_Version_str (T : Tex K mg D) : FnOk P w K mg base CX0 3 D.a_Version_str D.d_Version_str P_Version_str (spStr D.a_Version) := by
  have G_text_at : FnOk P w K mg base CX0 2 D.a_text_at D.d_text_at P_text_at spTA := ok_text_at T
  refine T.Version_str_F.ok S_Version_str (fun vs H Q E h => ?_) (fun cdv A outer s H vs Q E hr h => ?_)
  · obtain ⟨a, r, rfl, _⟩ := h
    rfl
  · obtain ⟨a, r, rfl, ⟨dx, ha⟩, hl, q⟩ := h
    exact ⟨_, (pss_one (ps_ret (pe_callTy SkE.call_str_str (by rfl) T.b_str (by decide +kernel) (pa_cons (pe_call G_text_at (hr.mono (by decide)) (by rfl) T.text_at_g T.text_at_F.kp T.text_at_b .nil pass0 (pa_cons (pe_fld (pv 0) rfl) pa_nil)) pa_nil)))), _, rfl, a, _, dx, _, _, rfl, ha, T.Version_cl, T.Version_n_rank, lk_rank _, r, rfl, hl, fun H1 s1 => ⟨_, rfl, q H1 s1⟩⟩
end

/-! ## The law's drawn parts -/
section
variable {P : Program} {w : World} {K : PySem.W.Frag} {mg : Str → Option Value} {base : Heap} {D : Ad}
open TL SX
def sw : Nat → List Nat
  | 0 => [97]
  | 1 => [98]
  | 2 => [114, 99]
  | _ => []
theorem sw_txt : (("a" : String) : Str) = S (sw 0) ∧ (("b" : String) : Str) = S (sw 1) ∧ (("rc" : String) : Str) = S (sw 2) ∧ (("" : String) : Str) = S (sw 3) := by decide +kernel
theorem sw_nil {j : Nat} (h : j ≤ 3) : sw j = [] ↔ j = 3 := by
  match j, h with
  | 0, _ => simp [sw]
  | 1, _ => simp [sw]
  | 2, _ => simp [sw]
  | 3, _ => simp [sw]
theorem sw_len (j : Nat) : (sw j).length ≤ 2 := by
  match j with
  | 0 => simp [sw]
  | 1 => simp [sw]
  | 2 => simp [sw]
  | n + 3 => simp [sw]
theorem sw_wd {j : Nat} (h : j < 3) : sw j = wd j := by
  match j, h with
  | 0, _ => rfl
  | 1, _ => rfl
  | 2, _ => rfl
theorem sw_ne {j : Nat} (h : j ≤ 3) : decide (V.str (S (sw j)) = V.str (("" : String) : Str)) = decide (j = 3) := by
  refine decide_eq_decide.mpr ?_
  rw [sw_txt.2.2.2]
  constructor
  · intro e
    injection e with e
    exact (sw_nil h).mp (S_inj e)
  · rintro rfl
    rfl
/-- drawn parts: the figures' list at q, the stage's place -/
def Pt (H : Hp) (p : Addr) (fs : List Nat) (st : Nat) : Prop := ∃ q, H p = some (.tup [.ref q, .str (S (sw (st / 1000))), .int ((st % 1000 : Nat) : Int)]) ∧ H q = some (.lst (vN fs)) ∧ fs ≠ [] ∧ fs.length ≤ 4 ∧ (∀ n ∈ fs, n < 1000) ∧ st ≤ 3000
theorem Pt.keep {H H' : Hp} {p : Addr} {fs : List Nat} {st : Nat} (h : Pt H p fs st) (e : Same H H') : Pt H' p fs st := let ⟨q, h1, h2, r⟩ := h; ⟨q, e _ _ h1, e _ _ h2, r⟩
theorem Pt.but {H H' : Hp} {p d c : Addr} {n : Nat} {fs : List Nat} {st : Nat} (h : Pt H p fs st) (hd : Dr H d c n) (e : But d H H') : Pt H' p fs st := by
  obtain ⟨q, h1, h2, r⟩ := h
  obtain ⟨o, ho⟩ := hd.dict
  exact ⟨q, e _ _ h1 (ne_of h1 ho (by intro z; cases z)), e _ _ h2 (ne_of h2 ho (by intro z; cases z)), r⟩
theorem vN_len (ns : List Nat) : (vN ns).length = ns.length := List.length_map _
def spNumb : Sp := fun vs H Q _ => ∃ (d c : Addr) (n : Nat), vs = [.ref d] ∧ Dr H d c n ∧ n ≤ 10 ^ 11 ∧ ∀ (m : Nat) H', m < 1000 → Dr H' d c (n + 2) → But d H H' → Q (.int (m : Int)) H'
theorem ok_number (T : Tex K mg D) : FnOk P w K mg base CX0 3 D.a_number D.d_number P_number spNumb := by
  have G_next : FnOk P w K mg base CX0 2 D.a_next D.d_next P_next spNext := ok_next T
  refine T.number_F.ok S_number (fun vs H Q E h => ?_) (fun cdv A outer s H vs Q E hr h => ?_)
  · obtain ⟨d, c, n, rfl, _⟩ := h
    rfl
  · obtain ⟨d, c, n, rfl, hd, hn, q⟩ := h
    refine ⟨_, (pss_one (ps_ret (pe_ix ix_list (pe_lst (pa_cons pe_int (pa_cons pe_int (pa_cons pe_int (pa_cons pe_int (pa_cons pe_int (pa_cons pe_int (pa_cons pe_int (pa_cons pe_int (pa_cons pe_int (pa_cons (pe_call G_next (hr.mono (by decide)) (by rfl) T.next_g T.next_F.kp T.next_b .nil pass0 (pa_cons (pv 0) (pa_cons pe_int pa_nil))) pa_nil))))))))))) (pe_call G_next (hr.mono (by decide)) (by rfl) T.next_g T.next_F.kp T.next_b .nil pass0 (pa_cons (pv 0) (pa_cons pe_int pa_nil))) (fun _ _ => rfl)))), ?_⟩
    refine ⟨_, rfl, d, c, 1000, n, rfl, hd, by omega, by decide, by decide, fun v1 H1 v10 v11 d1 b1 => ⟨by show 10 ≤ sizeLine; decide, fun p hp => ?_⟩⟩
    have ndp := d1.ne_new hp
    refine ⟨_, rfl, d, c, 10, n + 1, rfl, d1.new hp, by omega, by decide, by decide, fun v2 H2 v20 v21 d2 b2 => ?_⟩
    obtain ⟨m1, rfl⟩ := Int.eq_ofNat_of_zero_le v10
    have hp2 := b2 p _ upd_same ndp.symm
    have e : [V.int 0, .int 0, .int 1, .int 2, .int 9, .int 10, .int 99, .int 100, .int 999, .int ((m1 : Nat) : Int)] = vN [0, 0, 1, 2, 9, 10, 99, 100, 999, m1] := rfl
    rw [e] at hp2
    obtain ⟨x, hx, mx⟩ := at_in (xs := vN [0, 0, 1, 2, 9, 10, 99, 100, 999, m1]) v20 v21
    obtain ⟨m, hm, rfl⟩ := List.mem_map.mp mx
    refine ⟨p, _, _, _, rfl, rfl, SqL.of hp2, hx, ?_⟩
    refine q m H2 ?_ d2 ((b1.new hp).trans b2)
    simp only [List.mem_cons, List.not_mem_nil, or_false] at hm
    omega
def spPt : Sp := fun vs H Q _ => ∃ (d c : Addr) (n : Nat), vs = [.ref d] ∧ Dr H d c n ∧ n ≤ 10 ^ 10 ∧ ∀ p fs st H', Pt H' p fs st → Dr H' d c (n + 20) → But d H H' → Q (.ref p) H'
theorem sw_six {x : V} (h : x ∈ [V.str "", .str "", .str "", .str "a", .str "b", .str "rc"]) : ∃ j, j ≤ 3 ∧ x = .str (S (sw j)) := by
  simp only [List.mem_cons, List.not_mem_nil, or_false] at h
  rcases h with rfl | rfl | rfl | rfl | rfl | rfl
  · exact ⟨3, by decide, by rw [← sw_txt.2.2.2]⟩
  · exact ⟨3, by decide, by rw [← sw_txt.2.2.2]⟩
  · exact ⟨3, by decide, by rw [← sw_txt.2.2.2]⟩
  · exact ⟨0, by decide, by rw [← sw_txt.1]⟩
  · exact ⟨1, by decide, by rw [← sw_txt.2.1]⟩
  · exact ⟨2, by decide, by rw [← sw_txt.2.2.1]⟩
/-- a stage and what stands behind it -/
theorem pt_of {H : Hp} {p q : Addr} {fs : List Nat} {j m : Nat} (h1 : H p = some (.tup [.ref q, .str (S (sw j)), .int (m : Int)])) (h2 : H q = some (.lst (vN fs))) (h0 : fs ≠ []) (h4 : fs.length ≤ 4) (hb : ∀ n ∈ fs, n < 1000)
    (hj : j ≤ 3) (hm : m < 1000) (h3 : j = 3 → m = 0) : Pt H p fs (j * 1000 + m) := by
  have e1 : (j * 1000 + m) / 1000 = j := by omega
  have e2 : (j * 1000 + m) % 1000 = m := by omega
  refine ⟨q, ?_, h2, h0, h4, hb, by omega⟩
  rw [e1, e2]
  exact h1
theorem ok_parts (T : Tex K mg D) : FnOk P w K mg base CX0 4 D.a_parts D.d_parts P_parts spPt := by
  have G_next : FnOk P w K mg base CX0 2 D.a_next D.d_next P_next spNext := ok_next T
  have G_number : FnOk P w K mg base CX0 3 D.a_number D.d_number P_number spNumb := ok_number T
  refine T.parts_F.ok S_parts (fun vs H Q E h => ?_) (fun cdv A outer s H vs Q E hr h => ?_)
  · obtain ⟨d, c, n, rfl, _⟩ := h
    rfl
  · obtain ⟨d, c, n, rfl, hd, hn, q⟩ := h
    refine ⟨_, (pss_cons (ps_setLc (i := 1) (own := [(("_law_k" : Str), 3)]) (g := gName 3) (tt := tYes) rfl S_parts.nd rfl rfl (sw_true rfl rfl rfl (by decide +kernel)) (pi_range1 rfl T.b_range (pa_cons (pe_op op_add pe_int (pe_call G_next (hr.mono (by decide)) (by rfl) T.next_g T.next_F.kp T.next_b .nil pass0 (pa_cons (pv 0) (pa_cons pe_int pa_nil)))) pa_nil)) (blkOk_by (N := N_parts) (sc := defScope s_parts) (by decide +kernel)) (fun _ _ _ _ _ => pg_name (i := 3) S_parts.nd rfl (Or.inl rfl)) (fun _ _ _ _ _ => pts_nil) (fun _ _ _ _ _ => (pe_call G_number (hr.mono (by decide)) (by rfl) T.number_g T.number_F.kp T.number_b .nil pass0 (pa_cons (pv 0) pa_nil))))
      (pss_cons (ps_set (i := 2) S_parts.nd rfl (Or.inl rfl) (pe_ix ix_list (pe_lst (pa_cons pe_str (pa_cons pe_str (pa_cons pe_str (pa_cons pe_str (pa_cons pe_str (pa_cons pe_str pa_nil))))))) (pe_call G_next (hr.mono (by decide)) (by rfl) T.next_g T.next_F.kp T.next_b .nil pass0 (pa_cons (pv 0) (pa_cons pe_int pa_nil))) (fun _ _ => rfl)))
      (pss_one (ps_ret (pe_tup (pa_cons (pv 1) (pa_cons (pv 2) (pa_cons (pe_ifExp (pt_cmpR op_ne (pv 2) pe_str (nomark _)) (pe_call G_number (hr.mono (by decide)) (by rfl) T.number_g T.number_F.kp T.number_b .nil pass0 (pa_cons (pv 0) pa_nil)) pe_int) pa_nil)))))))), ?_⟩
    refine ⟨_, rfl, d, c, 4, n, rfl, hd, by omega, by decide, by decide, fun v1 H1 v10 v11 d1 b1 => ?_⟩
    refine ⟨_, _, rfl, rfl, _, rfl, by omega, by omega, fun DD hDD => ?_⟩
    have ndD : d ≠ DD := d1.ne_new hDD
    have ncD : c ≠ DD := d1.nc_new hDD
    have hcnt : (1 + v1).toNat ≤ 4 ∧ 1 ≤ (1 + v1).toNat := by omega
    revert hcnt
    generalize (1 + v1).toNat = cnt
    intro hcnt
    refine lc_range (lo := 0) (n := cnt) (fun i H' => Dr H' d c (n + 1 + 2 * i) ∧ But d H H' ∧ H DD = none ∧ ∃ ys : List Nat, ys.length = i ∧ (∀ y ∈ ys, y < 1000) ∧ H' DD = some (.lst (vN ys)))
      ⟨d1.new hDD, b1.new hDD, b1.free ndD hDD, [], rfl, by simp, upd_same⟩ ?_ ?_
    · rintro i H4 hi ⟨d6, b6, hDH, ys, yl, yp, hD4⟩
      refine ⟨rfl, _, rfl, d, c, _, rfl, d6, by omega, fun m H5 hm d7 b7 => ?_⟩
      have hD5 := b7 DD _ hD4 ndD.symm
      refine ⟨_, hD5, szt (by rw [vN_len]; omega), (d7.off ndD ncD).mono (by omega), ?_, hDH, ys ++ [m], by simp [yl], ?_, ?_⟩
      · intro b o e nb
        rw [upd_ne (ne_of_none e hDH)]
        exact b7 b o (b6 b o e nb) nb
      · intro y hy
        rcases List.mem_append.mp hy with h | h
        · exact yp y h
        · rw [List.mem_singleton.mp h]
          exact hm
      · rw [upd_same]
        simp [vN]
    · rintro H4 ⟨d6, b6, hDH, ys, yl, yp, hD4⟩
      refine ⟨by show 6 ≤ sizeLine; decide, fun k hk => ?_⟩
      have ndk := d6.ne_new hk
      refine ⟨_, rfl, d, c, 6, _, rfl, d6.new hk, by omega, by decide, by decide, fun v2 H5 v20 v21 d7 b7 => ?_⟩
      have hk5 := b7 k _ upd_same ndk.symm
      obtain ⟨x, hx, mx⟩ := at_in (xs := [V.str "", .str "", .str "", .str "a", .str "b", .str "rc"]) v20 v21
      obtain ⟨j, hj, rfl⟩ := sw_six mx
      refine ⟨k, _, _, _, rfl, rfl, SqL.of hk5, hx, ?_⟩
      have b8 := (b6.new hk).trans b7
      have hD5 : H5 DD = some (.lst (vN ys)) := b7 DD _ (by rw [upd_ne (ne_of_none hD4 hk)]; exact hD4) ndD.symm
      have hy0 : ys ≠ [] := by
        intro e
        rw [e] at yl
        simp only [List.length_nil] at yl
        omega
      refine ⟨_, rfl, _, rfl, _, rfl, rfl, _, rfl, ?_⟩
      rw [sw_ne hj]
      by_cases h3 : j = 3
      · rw [decide_eq_true h3]
        refine iteF ⟨by show 3 ≤ sizeLine; decide, fun p hp => ?_⟩
        have nDp : DD ≠ p := ne_of_none hD5 hp
        refine q p ys (j * 1000 + 0) _ (pt_of upd_same (by rw [upd_ne nDp]; exact hD5) hy0 (by omega) yp hj (by decide) (fun _ => rfl)) ((d7.new hp).mono (by omega)) (b8.new hp)
      · rw [decide_eq_false h3]
        refine iteT ⟨_, rfl, d, c, _, rfl, d7, by omega, fun m H6 hm d8 b9 => ⟨by show 3 ≤ sizeLine; decide, fun p hp => ?_⟩⟩
        have hD6 := b9 DD _ hD5 ndD.symm
        have nDp : DD ≠ p := ne_of_none hD6 hp
        exact q p ys (j * 1000 + m) _ (pt_of upd_same (by rw [upd_ne nDp]; exact hD6) hy0 (by omega) yp hj hm (fun e => absurd e h3)) ((d8.new hp).mono (by omega)) ((b8.trans b9).new hp)
end

/-! ## The law's texts, rows and ranks -/
section
variable {P : Program} {w : World} {K : PySem.W.Frag} {mg : Str → Option Value} {base : Heap} {D : Ad}
open TL SX
def spWrit : Sp := fun vs H Q _ => ∃ (p : Addr) (fs : List Nat) (st : Nat), vs = [.ref p] ∧ Pt H p fs st ∧ ∀ H', Same H H' → Q (.str (S (wrt fs st))) H'
theorem stg_sw {st : Nat} (h : st ≤ 3000) (h3 : st / 1000 ≠ 3) : stg st = sw (st / 1000) ++ numL (st % 1000) := by
  unfold stg
  rw [if_neg (by omega), sw_wd (by omega)]
theorem stg_3 {st : Nat} (h : st ≤ 3000) (h3 : st / 1000 = 3) : stg st = [] := by
  unfold stg
  rw [if_pos (by omega)]
theorem ok_written (T : Tex K mg D) : FnOk P w K mg base CX0 1 D.a_written D.d_written P_written spWrit := by
  refine T.written_F.ok S_written (fun vs H Q E h => ?_) (fun cdv A outer s H vs Q E hr h => ?_)
  · obtain ⟨p, fs, st, rfl, _⟩ := h
    rfl
  · obtain ⟨p, fs, st, rfl, ⟨a, hp, ha, h0, h4, hb, hs⟩, q⟩ := h
    refine ⟨_, (pss_cons (ps_asg (pv 0) (pg_tup (by rfl) (pgs_cons (pg_name (i := 1) S_written.nd rfl (Or.inl rfl)) (pgs_cons (pg_name (i := 2) S_written.nd rfl (Or.inl rfl)) (pgs_cons (pg_name (i := 3) S_written.nd rfl (Or.inl rfl)) pgs_nil)))))
      (pss_one (ps_ret (pe_op op_add_str (pe_join pe_str (pe_lc (own := [(("_law_one" : Str), 4)]) (g := gName 4) (tt := tYes) rfl S_written.nd (pi_list (pv 1)) (blkOk_by (N := N_written) (sc := defScope s_written) (by decide +kernel)) (fun _ _ _ _ _ => pg_name (i := 4) S_written.nd rfl (Or.inl rfl)) (fun _ _ _ _ _ => pts_nil) (fun _ _ _ _ _ => (pe_callTy call_str_int (by rfl) T.b_str (by decide +kernel) (pa_cons (pv 4) pa_nil))))) (pe_ifExp (pt_cmpR op_ne (pv 2) pe_str (nomark _)) (pe_op op_add_str (pv 2) (pe_callTy call_str_int (by rfl) T.b_str (by decide +kernel) (pa_cons (pv 3) pa_nil))) pe_str))))), ?_⟩
    refine ⟨_, rfl, p, _, rfl, .inl (.inl hp), rfl, _, _, rfl, _, _, rfl, _, _, rfl, rfl, ?_⟩
    refine ⟨⟨_, rfl⟩, _, rfl, a, rfl, ⟨_, SqL.of ha⟩, fun DD hDD => lc_lst fs (fun (n : Nat) => V.int (n : Int)) (fun _ => true) (fun n => .str (S (numL n))) hDD (szt (by omega)) (SqL.of ha) (fun n hn H4 R S4 s4 g1 g2 => ?_) (fun H4 s4 h4' => ?_)⟩
    · refine ⟨rfl, _, rfl, _, rfl, log_num (by have := hb n hn; omega), ?_⟩
      rw [str_num]
      exact g1 rfl _ (Same.refl _)
    · rw [filt1] at h4'
      refine ⟨_, DD, fs.map (fun n => S (numL n)), rfl, rfl, .inl (SqL.of (by rw [h4', List.map_map]; rfl)), ?_, ?_⟩
      · have h1 := sum_le fs hb
        rw [List.length_map]
        have h2 : (("." : String) : Str).length = 1 := rfl
        rw [h2]
        omega
      · have ej : Txt.join (("." : String) : Str) (fs.map fun n => S (numL n)) = S (joinL [46] (fs.map numL)) := by
          rw [dot_txt, ← join_S, List.map_map]
          rfl
        rw [ej]
        have hjl := join_len hb
        have hnl := numL_len3 (show st % 1000 < 1000 by omega)
        have hsl := sw_len (st / 1000)
        refine ⟨_, rfl, rfl, _, rfl, ?_⟩
        rw [sw_ne (by omega)]
        by_cases h3 : st / 1000 = 3
        · rw [decide_eq_true h3]
          refine iteF ⟨_, _, rfl, rfl, ?_, ?_⟩
          · rw [sw_txt.2.2.2, S_len, S_len]
            have : (sw 3).length = 0 := rfl
            exact szl (by omega)
          · rw [sw_txt.2.2.2, S_cat]
            have e : wrt fs st = joinL [46] (fs.map numL) ++ sw 3 := by
              unfold wrt
              rw [stg_3 hs h3]
              rfl
            rw [← e]
            exact q _ s4
        · rw [decide_eq_false h3]
          refine iteT ⟨_, rfl, _, rfl, _, rfl, log_num (by omega), _, _, rfl, rfl, ?_, _, _, rfl, rfl, ?_, ?_⟩
          · rw [str_num, S_len, S_len]
            exact szl (by omega)
          · rw [str_num, S_cat, S_len, S_len, List.length_append]
            exact szl (by omega)
          · rw [str_num, S_cat, S_cat, ← stg_sw hs h3]
            exact q _ s4
/-! ### rows -/
def rowL (fs : List Nat) (st : Nat) : List Nat := fs ++ List.replicate (4 - fs.length) 0 ++ [st / 1000, st % 1000]
theorem pad4 {fs : List Nat} (h0 : fs ≠ []) (h4 : fs.length ≤ 4) : ∃ a b c d, fs ++ List.replicate (4 - fs.length) 0 = [a, b, c, d] ∧ (fs ++ [0, 0, 0]).take 4 = [a, b, c, d] := by
  match fs, h0, h4 with
  | [a], _, _ => exact ⟨a, 0, 0, 0, rfl, rfl⟩
  | [a, b], _, _ => exact ⟨a, b, 0, 0, rfl, rfl⟩
  | [a, b, c], _, _ => exact ⟨a, b, c, 0, rfl, rfl⟩
  | [a, b, c, d], _, _ => exact ⟨a, b, c, d, rfl, rfl⟩
  | a :: b :: c :: d :: e :: r, _, h => exact absurd h (by simp only [List.length_cons]; omega)
theorem vN_app (a b : List Nat) : vN a ++ vN b = vN (a ++ b) := by
  unfold vN
  rw [List.map_append]
theorem rep_vN (k : Nat) : (List.replicate k [V.int 0]).flatten = vN (List.replicate k 0) := by
  induction k with
  | zero => rfl
  | succ k ih =>
    rw [List.replicate_succ, List.flatten_cons, ih, List.replicate_succ]
    rfl
def stL : List V := [.str "a", .str "b", .str "rc", .str ""]
theorem stL_at {j : Nat} (h : j ≤ 3) : stL[j]? = some (.str (S (sw j))) := by
  match j, h with
  | 0, _ => rw [← sw_txt.1]; rfl
  | 1, _ => rw [← sw_txt.2.1]; rfl
  | 2, _ => rw [← sw_txt.2.2.1]; rfl
  | 3, _ => rw [← sw_txt.2.2.2]; rfl
theorem sw_inj {i j : Nat} (hi : i ≤ 3) (hj : j ≤ 3) (h : sw i = sw j) : i = j := by
  have key : ∀ i < 4, ∀ j < 4, sw i = sw j → i = j := by decide
  exact key i (by omega) j (by omega) h
theorem eqV_sw {i j : Nat} (hi : i ≤ 3) (hj : j ≤ 3) : eqV (.str (S (sw i))) (.str (S (sw j))) = decide (i = j) := by
  show (S (sw i) == S (sw j)) = _
  rw [S_beq_eq]
  exact decide_eq_decide.mpr ⟨fun e => sw_inj hi hj e, fun e => by rw [e]⟩
def spRow : Sp := fun vs H Q _ => ∃ (p : Addr) (fs : List Nat) (st : Nat), vs = [.ref p] ∧ Pt H p fs st ∧ ∀ t H', Same H H' → H' t = some (.tup (vN (rowL fs st))) → Q (.ref t) H'
theorem ok_row (T : Tex K mg D) : FnOk P w K mg base CX0 1 D.a_row D.d_row P_row spRow := by
  refine T.row_F.ok S_row (fun vs H Q E h => ?_) (fun cdv A outer s H vs Q E hr h => ?_)
  · obtain ⟨p, fs, st, rfl, _⟩ := h
    rfl
  · obtain ⟨p, fs, st, rfl, ⟨a, hp, ha, h0, h4, hb, hs⟩, q⟩ := h
    refine ⟨_, (pss_cons (ps_asg (pv 0) (pg_tup (by rfl) (pgs_cons (pg_name (i := 1) S_row.nd rfl (Or.inl rfl)) (pgs_cons (pg_name (i := 2) S_row.nd rfl (Or.inl rfl)) (pgs_cons (pg_name (i := 3) S_row.nd rfl (Or.inl rfl)) pgs_nil)))))
      (pss_one (ps_ret (pe_callTy call_tuple_of (by rfl) T.b_tuple (by decide +kernel) (pa_cons (pe_op op_cat (pe_op op_cat (pv 1) (pe_op op_rep (pe_lst (pa_cons pe_int pa_nil)) (pe_op op_sub pe_int (pe_callB call_len_seq (by rfl) T.b_len (by decide +kernel) (pa_cons (pv 1) pa_nil))))) (pe_lst (pa_cons (pe_bm PySem.F.plainAttrs_list PySem.F.slot_list_index PySem.F.type_list_index mt_index (pe_lst (pa_cons pe_str (pa_cons pe_str (pa_cons pe_str (pa_cons pe_str pa_nil))))) (pa_cons (pv 2) pa_nil)) (pa_cons (pv 3) pa_nil)))) pa_nil))))), ?_⟩
    refine ⟨_, rfl, p, _, rfl, .inl (.inl hp), rfl, _, _, rfl, _, _, rfl, _, _, rfl, rfl, ?_⟩
    refine ⟨_, rfl, by show 1 ≤ sizeLine; decide, fun z hz => ?_⟩
    have s1 : Same H (upd H z (.lst [.int 0])) := same_new hz
    have hz1 : (upd H z (.lst [.int 0])) z = some (.lst [.int 0]) := upd_same
    revert s1 hz1
    generalize upd H z (.lst [.int 0]) = H1
    intro s1 hz1
    have hk : ((4 : Int) - ((vN fs).length : Int)).toNat = 4 - fs.length := by
      rw [vN_len]
      omega
    refine ⟨_, rfl, a, _, rfl, .inl (SqL.of (s1 _ _ ha)), _, _, rfl, rfl, z, _, _, rfl, rfl, hz1, by rw [vN_len]; omega, by rw [vN_len]; omega, by rw [hk]; exact szl (by simp only [List.length_cons, List.length_nil]; omega), fun z2 hz2 => ?_⟩
    rw [hk, rep_vN]
    have s2 : Same H (upd H1 z2 (.lst (vN (List.replicate (4 - fs.length) 0)))) := s1.trans (same_new hz2)
    have hz3 : (upd H1 z2 (.lst (vN (List.replicate (4 - fs.length) 0)))) z2 = some (.lst (vN (List.replicate (4 - fs.length) 0))) := upd_same
    revert s2 hz3
    generalize upd H1 z2 (.lst (vN (List.replicate (4 - fs.length) 0))) = H2
    intro s2 hz3
    refine ⟨a, z2, _, _, rfl, rfl, s2 _ _ ha, hz3, by rw [vN_len, vN_len, List.length_replicate]; exact szl (by omega), fun z4 hz4 => ?_⟩
    rw [vN_app]
    have s3 : Same H (upd H2 z4 (.lst (vN (fs ++ List.replicate (4 - fs.length) 0)))) := s2.trans (same_new hz4)
    have hz5 : (upd H2 z4 (.lst (vN (fs ++ List.replicate (4 - fs.length) 0)))) z4 = some (.lst (vN (fs ++ List.replicate (4 - fs.length) 0))) := upd_same
    revert s3 hz5
    generalize upd H2 z4 (.lst (vN (fs ++ List.replicate (4 - fs.length) 0))) = H3
    intro s3 hz5
    refine ⟨by show 4 ≤ sizeLine; decide, fun k hk => ⟨.inl ⟨rfl, _, SqL.of upd_same⟩, _, rfl, k, stL, _, st / 1000, _, rfl, rfl, SqL.of upd_same, rfl, by decide, stL_at (by omega), ?_, ?_, ?_⟩⟩
    · rw [eqV_sw (by omega) (by omega)]
      exact decide_eq_true rfl
    · intro m z' hm hz'
      have hm3 : m ≤ 3 := by omega
      rw [stL_at hm3] at hz'
      obtain rfl := Option.some.inj hz'
      rw [eqV_sw hm3 (by omega)]
      exact decide_eq_false (by omega)
    · have s4 := s3.trans (same_new (o := .lst stL) hk)
      have hz6 := (same_new (o := .lst stL) hk) _ _ hz5
      refine ⟨_, rfl, by show 2 ≤ sizeLine; decide, fun k2 hk2 => ?_⟩
      have s5 := s4.trans (same_new (o := .lst [.int ((st / 1000 : Nat) : Int), .int ((st % 1000 : Nat) : Int)]) hk2)
      have hz7 := (same_new (o := .lst [.int ((st / 1000 : Nat) : Int), .int ((st % 1000 : Nat) : Int)]) hk2) _ _ hz6
      refine ⟨z4, k2, _, _, rfl, rfl, hz7, upd_same, ?_, fun k3 hk3 => ?_⟩
      · rw [vN_len, List.length_append, List.length_replicate]
        exact szl (by simp only [List.length_cons, List.length_nil]; omega)
      · have s6 := s5.trans (same_new (o := .lst (vN (fs ++ List.replicate (4 - fs.length) 0) ++ [.int ((st / 1000 : Nat) : Int), .int ((st % 1000 : Nat) : Int)])) hk3)
        refine ⟨k3, _, rfl, .inl ⟨SqL.of upd_same, fun t ht => ?_⟩⟩
        refine q t _ (s6.trans (same_new ht)) ?_
        rw [upd_same]
        show some (HO.tup (vN (fs ++ List.replicate (4 - fs.length) 0) ++ vN [st / 1000, st % 1000])) = _
        rw [vN_app]
        rfl
/-! ### ranks -/
def spRkL : Sp := fun vs H Q _ => ∃ (p : Addr) (fs : List Nat) (st : Nat), vs = [.ref p] ∧ Pt H p fs st ∧ ∀ H', Same H H' → Q (.int (rk fs st : Nat)) H'
theorem row_at {fs : List Nat} {st j x : Nat} (h : (rowL fs st)[j]? = some x) : atI (vN (rowL fs st)) ((j : Nat) : Int) = some (.int (x : Int)) := by
  refine atI_nat ?_
  unfold vN
  rw [List.getElem?_map, h]
  rfl
theorem ok_rank (T : Tex K mg D) : FnOk P w K mg base CX0 2 D.a_rank D.d_rank P_rank spRkL := by
  have G_row : FnOk P w K mg base CX0 1 D.a_row D.d_row P_row spRow := ok_row T
  refine T.rank_F.ok S_rank (fun vs H Q E h => ?_) (fun cdv A outer s H vs Q E hr h => ?_)
  · obtain ⟨p, fs, st, rfl, _⟩ := h
    rfl
  · obtain ⟨p, fs, st, rfl, hp, q⟩ := h
    refine ⟨_, (pss_cons (ps_set (i := 1) S_rank.nd rfl (Or.inl rfl) (pe_call G_row (hr.mono (by decide)) (by rfl) T.row_g T.row_F.kp T.row_b .nil pass0 (pa_cons (pv 0) pa_nil)))
      (pss_cons (ps_set (i := 2) S_rank.nd rfl (Or.inl rfl) (pe_op op_add (pe_op op_add (pe_op op_add (pe_op op_mul (pe_ix ix_tup (pv 1) pe_int (fun _ _ => rfl)) pe_int) (pe_op op_mul (pe_ix ix_tup (pv 1) pe_int (fun _ _ => rfl)) pe_int)) (pe_op op_mul (pe_ix ix_tup (pv 1) pe_int (fun _ _ => rfl)) pe_int)) (pe_ix ix_tup (pv 1) pe_int (fun _ _ => rfl))))
      (pss_one (ps_ret (pe_op op_add (pe_op op_add (pe_op op_mul (pv 2) pe_int) (pe_op op_mul (pe_ix ix_tup (pv 1) pe_int (fun _ _ => rfl)) pe_int)) (pe_ix ix_tup (pv 1) pe_int (fun _ _ => rfl))))))), ?_⟩
    refine ⟨_, rfl, p, fs, st, rfl, hp, fun t H1 s1 ht => ?_⟩
    obtain ⟨_, _, _, h0, h4, _, hs⟩ := hp
    obtain ⟨a, b, c, d, e1, e2⟩ := pad4 h0 h4
    have er : rowL fs st = [a, b, c, d, st / 1000, st % 1000] := by
      unfold rowL
      rw [e1]
      rfl
    have g0 := row_at (fs := fs) (st := st) (j := 0) (x := a) (by rw [er]; rfl)
    have g1 := row_at (fs := fs) (st := st) (j := 1) (x := b) (by rw [er]; rfl)
    have g2 := row_at (fs := fs) (st := st) (j := 2) (x := c) (by rw [er]; rfl)
    have g3 := row_at (fs := fs) (st := st) (j := 3) (x := d) (by rw [er]; rfl)
    have g4 := row_at (fs := fs) (st := st) (j := 4) (x := st / 1000) (by rw [er]; rfl)
    have g5 := row_at (fs := fs) (st := st) (j := 5) (x := st % 1000) (by rw [er]; rfl)
    have hq := sqT_of (K := K) ht
    refine ⟨_, rfl, t, _, _, _, rfl, rfl, hq, g0, _, _, rfl, rfl, .inr ⟨by decide, by decide⟩, ?_⟩
    refine ⟨_, rfl, t, _, _, _, rfl, rfl, hq, g1, _, _, rfl, rfl, .inr ⟨by decide, by decide⟩, _, _, rfl, rfl, ?_⟩
    refine ⟨_, rfl, t, _, _, _, rfl, rfl, hq, g2, _, _, rfl, rfl, .inr ⟨by decide, by decide⟩, _, _, rfl, rfl, ?_⟩
    refine ⟨_, rfl, t, _, _, _, rfl, rfl, hq, g3, _, _, rfl, rfl, ?_⟩
    refine ⟨_, rfl, _, _, rfl, rfl, .inr ⟨by decide, by decide⟩, ?_⟩
    refine ⟨_, rfl, t, _, _, _, rfl, rfl, hq, g4, _, _, rfl, rfl, .inr ⟨by decide, by decide⟩, _, _, rfl, rfl, ?_⟩
    refine ⟨_, rfl, t, _, _, _, rfl, rfl, hq, g5, _, _, rfl, rfl, ?_⟩
    have q' := q H1 s1
    have ek : rk fs st = (((a * 1000 + b) * 1000 + c) * 1000 + d) * 3001 + st := by
      unfold rk
      rw [e2]
      simp only [List.foldl_cons, List.foldl_nil]
      omega
    rw [ek] at q'
    have ev : (((((a * 1000 + b) * 1000 + c) * 1000 + d) * 3001 + st : Nat) : Int) = ((a : Int) * 1000000000 + (b : Int) * 1000000 + (c : Int) * 1000 + (d : Int)) * 3001 + ((st / 1000 : Nat) : Int) * 1000 + ((st % 1000 : Nat) : Int) := by omega
    rw [ev] at q'
    exact q'
end

section
variable {P : Program} {w : World} {K : PySem.W.Frag} {mg : Str → Option Value} {base : Heap} {D : Ad}
open TL SX
/-! ### the parts of a rank -/
def spPAt : Sp := fun vs H Q _ => ∃ r : Nat, vs = [.int (r : Int)] ∧ r ≤ LAST ∧ ∀ p H', Same H H' → Pt H' p (n4 r) (r % 3001) → Q (.ref p) H'
theorem ok_parts_at (T : Tex K mg D) : FnOk P w K mg base CX0 1 D.a_parts_at D.d_parts_at P_parts_at spPAt := by
  refine T.parts_at_F.ok S_parts_at (fun vs H Q E h => ?_) (fun cdv A outer s H vs Q E hr h => ?_)
  · obtain ⟨r, rfl, _⟩ := h
    rfl
  · obtain ⟨r, rfl, hl, q⟩ := h
    refine ⟨_, (pss_cons (ps_par (i := 1) (j := 2) (by rfl) S_parts_at.nd rfl rfl (by decide) rfl rfl (pa_cons (pe_op op_fdiv (pv 0) pe_int) (pa_cons (pe_op op_mod (pv 0) pe_int) pa_nil)) (by rfl))
      (pss_cons (ps_set (i := 3) S_parts_at.nd rfl (Or.inl rfl) (pe_lst (pa_cons (pe_op op_fdiv (pv 1) pe_int) (pa_cons (pe_op op_mod (pe_op op_fdiv (pv 1) pe_int) pe_int) (pa_cons (pe_op op_mod (pe_op op_fdiv (pv 1) pe_int) pe_int) (pa_cons (pe_op op_mod (pv 1) pe_int) pa_nil))))))
      (pss_one (ps_ret (pe_tup (pa_cons (pv 3) (pa_cons (pe_ix ix_list (pe_lst (pa_cons pe_str (pa_cons pe_str (pa_cons pe_str (pa_cons pe_str pa_nil))))) (pe_op op_fdiv (pv 2) pe_int) (fun _ _ => rfl)) (pa_cons (pe_op op_mod (pv 2) pe_int) pa_nil)))))))), ?_⟩
    refine ⟨_, rfl, _, _, rfl, rfl, ⟨by decide, by decide⟩, _, rfl, _, _, rfl, rfl, (posI rfl), _, _, rfl, ?_⟩
    have hst : (r : Int) % 3001 / 1000 = ((r % 3001 / 1000 : Nat) : Int) := by omega
    refine ⟨_, rfl, _, _, rfl, rfl, ⟨by decide, by decide⟩, ?_⟩
    refine ⟨_, rfl, _, _, rfl, rfl, ⟨by decide, by decide⟩, _, _, rfl, rfl, (posI rfl), ?_⟩
    refine ⟨_, rfl, _, _, rfl, rfl, ⟨by decide, by decide⟩, _, _, rfl, rfl, (posI rfl), ?_⟩
    refine ⟨_, rfl, _, _, rfl, rfl, (posI rfl), by show 4 ≤ sizeLine; decide, fun a ha => ?_⟩
    have e4 : [V.int ((r : Int) / 3001 / 1000000000), .int ((r : Int) / 3001 / 1000000 % 1000), .int ((r : Int) / 3001 / 1000 % 1000), .int ((r : Int) / 3001 % 1000)] = vN (n4 r) := rfl
    have ha0 : (upd H a (.lst [V.int ((r : Int) / 3001 / 1000000000), .int ((r : Int) / 3001 / 1000000 % 1000), .int ((r : Int) / 3001 / 1000 % 1000), .int ((r : Int) / 3001 % 1000)])) a = some (.lst (vN (n4 r))) := by rw [upd_same, e4]
    have s1 : Same H (upd H a (.lst [V.int ((r : Int) / 3001 / 1000000000), .int ((r : Int) / 3001 / 1000000 % 1000), .int ((r : Int) / 3001 / 1000 % 1000), .int ((r : Int) / 3001 % 1000)])) := same_new ha
    clear e4
    revert ha0 s1
    generalize upd H a (.lst [V.int ((r : Int) / 3001 / 1000000000), .int ((r : Int) / 3001 / 1000000 % 1000), .int ((r : Int) / 3001 / 1000 % 1000), .int ((r : Int) / 3001 % 1000)]) = H1
    intro ha0 s1
    refine ⟨_, rfl, by show 4 ≤ sizeLine; decide, fun k hk => ⟨_, rfl, _, _, rfl, rfl, ⟨by decide, by decide⟩, k, stL, _, _, rfl, rfl, SqL.of upd_same, (by rw [hst]; exact atI_nat (stL_at (by omega))), ?_⟩⟩
    refine ⟨_, rfl, _, _, rfl, rfl, (posI rfl), by show 3 ≤ sizeLine; decide, fun p hp => ?_⟩
    have s2 := s1.trans (same_new (o := .lst stL) hk)
    have ha2 := (same_new (o := .lst stL) hk) _ _ ha0
    refine q p _ (s2.trans (same_new hp)) ⟨a, upd_same, (same_new hp) _ _ ha2, by simp [n4], by simp [n4], n4_lt hl, by omega⟩
end

/-! ## The law's short texts and near parts -/
section
variable {P : Program} {w : World} {K : PySem.W.Frag} {mg : Str → Option Value} {base : Heap} {D : Ad}
open TL SX
theorem trim_ne {ns : List Nat} (h : ns ≠ []) : trim ns ≠ [] := by
  intro e
  have h1 := trim_len ns
  have h2 := many_pos ns ns.length (List.length_pos_iff.mpr h)
  rw [e] at h1
  simp only [List.length_nil] at h1
  omega
theorem trim_le (ns : List Nat) : (trim ns).length ≤ ns.length := by
  rw [trim_len]
  exact many_le ns ns.length
theorem cut_last {xs : List V} {m : Nat} (h : xs.length = m + 1) : cutV xs none (some (-1)) = xs.take m := by
  unfold cutV
  have e : HT.sIx xs.length xs.length (some (-1)) = m := by
    show (if (-1 : Int) < 0 then ((-1 : Int) + (xs.length : Int)).toNat else min (-1 : Int).toNat xs.length) = m
    rw [if_pos (by decide)]
    omega
  rw [e, show HT.sIx xs.length 0 none = 0 from rfl, List.drop_zero, Nat.sub_zero]
theorem at_last {xs : List V} {m : Nat} {z : V} (h : xs.length = m + 1) (hz : xs[m]? = some z) : atI xs (-1) = some z := by
  unfold atI
  have e : ixN xs.length (-1) = some m := by
    unfold ixN
    rw [if_neg (by decide), if_pos (by omega)]
    congr 1
    omega
  rw [e]
  exact hz
theorem take_vN (fs : List Nat) (m : Nat) : (vN fs).take m = vN (fs.take m) := by
  unfold vN
  rw [List.map_take]
theorem drop_vN (fs : List Nat) (m : Nat) : (vN fs).drop m = vN (fs.drop m) := by
  unfold vN
  rw [List.map_drop]
def spShort : Sp := fun vs H Q _ => ∃ (p : Addr) (fs : List Nat) (st : Nat), vs = [.ref p] ∧ Pt H p fs st ∧ ∀ H', Same H H' → Q (.str (S (wrt (trim fs) st))) H'
theorem ok_short (T : Tex K mg D) : FnOk P w K mg base CX0 2 D.a_short D.d_short P_short spShort := by
  have G_written : FnOk P w K mg base CX0 1 D.a_written D.d_written P_written spWrit := ok_written T
  refine T.short_F.ok S_short (fun vs H Q E h => ?_) (fun cdv A outer s H vs Q E hr h => ?_)
  · obtain ⟨p, fs, st, rfl, _⟩ := h
    rfl
  · obtain ⟨p, fs, st, rfl, ⟨a, hp, ha, h0, h4, hb, hs⟩, q⟩ := h
    refine ⟨_, (pss_cons (ps_asg (pv 0) (pg_tup (by rfl) (pgs_cons (pg_name (i := 1) S_short.nd rfl (Or.inl rfl)) (pgs_cons (pg_name (i := 2) S_short.nd rfl (Or.inl rfl)) (pgs_cons (pg_name (i := 3) S_short.nd rfl (Or.inl rfl)) pgs_nil)))))
      (pss_cons (ps_set (i := 4) S_short.nd rfl (Or.inl rfl) (pe_callTy call_list_of (by rfl) T.b_list (by decide +kernel) (pa_cons (pv 1) pa_nil)))
      (pss_cons (ps_while PassesOwn.never (PW.pt (pw_and (pt_cmpR op_gt (pe_callB call_len_seq (by rfl) T.b_len (by decide +kernel) (pa_cons (pv 4) pa_nil)) pe_int (nomark _)) (pw_and1 (pt_cmpR op_eq (pe_ix ix_list (pv 4) (pe_un un_neg pe_int) (fun _ _ => rfl)) pe_int (nomark _))))) (pss_one (ps_set (i := 4) S_short.nd rfl (Or.inl rfl) (pe_slice sl_list (pv 4) po_none (po_some (pe_un un_neg pe_int))))))
      (pss_one (ps_ret (pe_call G_written (hr.mono (by decide)) (by rfl) T.written_g T.written_F.kp T.written_b .nil pass0 (pa_cons (pe_tup (pa_cons (pv 4) (pa_cons (pv 2) (pa_cons (pv 3) pa_nil)))) pa_nil))))))), ?_⟩
    refine ⟨_, rfl, p, _, rfl, .inl (.inl hp), rfl, _, _, rfl, _, _, rfl, _, _, rfl, rfl, ?_⟩
    refine ⟨_, rfl, a, _, rfl, .inl (SqL.of ha), fun l hl => ?_⟩
    have hp1 : 1 ≤ fs.length := List.length_pos_iff.mpr h0
    refine ⟨fun m σ H' => ∃ b, σ = [some (.ref p), some (.ref a), some (.str (S (sw (st / 1000)))), some (.int ((st % 1000 : Nat) : Int)), some (.ref b)] ∧ Same H H' ∧ H' b = some (.lst (vN (fs.take m))) ∧ 1 ≤ m ∧ m ≤ fs.length ∧ many fs m = many fs fs.length,
      ⟨fs.length, l, rfl, same_new hl, by rw [List.take_length]; exact upd_same, hp1, Nat.le_refl _, rfl⟩, ?_⟩
    rintro m σ H1 ⟨b, rfl, s1, hb', m1, m2, m3⟩
    have hln : (vN (fs.take m)).length = m := by
      rw [vN_len, List.length_take]
      omega
    have fin : many fs m = m → trim fs = fs.take m := by
      intro e1
      unfold trim
      rw [← m3, e1]
    refine ⟨_, rfl, b, _, rfl, .inl (SqL.of hb'), _, _, rfl, rfl, _, rfl, ?_⟩
    rw [hln]
    by_cases h1 : m = 1
    · rw [decide_eq_false (by omega)]
      refine iteF (iteF ?_)
      have et := fin (by rw [h1]; rfl)
      refine ⟨_, rfl, _, rfl, _, rfl, by show 3 ≤ sizeLine; decide, fun t ht => ⟨t, trim fs, st, rfl, ⟨b, upd_same, (same_new ht) _ _ (by rw [hb', et]), trim_ne h0, Nat.le_trans (trim_le fs) h4, fun n hn => hb n (by rw [et] at hn; exact List.mem_of_mem_take hn), hs⟩, fun H2 s2 => q H2 ((s1.trans (same_new ht)).trans s2)⟩⟩
    · rw [decide_eq_true (by omega)]
      refine iteT ?_
      have hlt : m - 1 < fs.length := by omega
      obtain ⟨z, hz⟩ : ∃ z, fs[m - 1]? = some z := ⟨_, List.getElem?_eq_getElem hlt⟩
      have hat : atI (vN (fs.take m)) (-1) = some (.int ((z : Nat) : Int)) := by
        refine at_last (m := m - 1) (by omega) ?_
        unfold vN
        rw [List.getElem?_map, List.getElem?_take, if_pos (by omega), hz]
        rfl
      refine ⟨_, rfl, _, rfl, b, _, _, .int ((z : Nat) : Int), rfl, rfl, SqL.of hb', hat, rfl, _, rfl, ?_⟩
      obtain ⟨j, hj⟩ : ∃ j, m = j + 2 := ⟨m - 2, by omega⟩
      have hz' : fs[j + 1]? = some z := by rw [show j + 1 = m - 1 by omega]; exact hz
      by_cases h0z : z = 0
      · rw [h0z, decide_eq_true (show V.int ((0 : Nat) : Int) = V.int 0 from rfl)]
        rw [h0z] at hz'
        refine iteT ⟨fun σ' H'' => ∃ b, σ' = [some (.ref p), some (.ref a), some (.str (S (sw (st / 1000)))), some (.int ((st % 1000 : Nat) : Int)), some (.ref b)] ∧ Same H H'' ∧ H'' b = some (.lst (vN (fs.take (j + 1)))),
          fun σ' H'' ⟨b2, e1, e2, e3⟩ => ⟨j + 1, by omega, b2, e1, e2, e3, by omega, by omega, ?_⟩, ?_⟩
        · have e : many fs (j + 2) = many fs (j + 1) := by
            show (if fs[j + 1]? = some 0 then many fs (j + 1) else j + 2) = _
            rw [if_pos hz']
          rw [← e, ← hj]
          exact m3
        · refine ⟨_, rfl, _, rfl, _, rfl, b, _, rfl, SqL.of hb', fun k hk => ⟨k, rfl, s1.trans (same_new hk), ?_⟩⟩
          rw [upd_same]
          show some (HO.lst (cutV (vN (fs.take m)) none (some (-1)))) = _
          rw [cut_last (m := j + 1) (by omega), take_vN, List.take_take]
          congr 4
          omega
      · rw [decide_eq_false (by
          intro e
          injection e with e
          omega)]
        refine iteF ?_
        have et : trim fs = fs.take m := fin (by
          rw [hj]
          show (if fs[j + 1]? = some 0 then many fs (j + 1) else j + 2) = _
          rw [if_neg (by rw [hz']; intro e; exact h0z (Option.some.inj e))])
        refine ⟨_, rfl, _, rfl, _, rfl, by show 3 ≤ sizeLine; decide, fun t ht => ⟨t, trim fs, st, rfl, ⟨b, upd_same, (same_new ht) _ _ (by rw [hb', et]), trim_ne h0, Nat.le_trans (trim_le fs) h4, fun n hn => hb n (by rw [et] at hn; exact List.mem_of_mem_take hn), hs⟩, fun H2 s2 => q H2 ((s1.trans (same_new ht)).trans s2)⟩⟩
/-! ### near parts -/
theorem sw_four {x : V} (h : x ∈ [V.str "", .str "a", .str "b", .str "rc"]) : ∃ j, j ≤ 3 ∧ x = .str (S (sw j)) := by
  refine sw_six ?_
  simp only [List.mem_cons, List.not_mem_nil, or_false] at h ⊢
  exact .inr (.inr h)
def spNear : Sp := fun vs H Q _ => ∃ (d c : Addr) (n : Nat) (p : Addr) (fs : List Nat) (st : Nat), vs = [.ref d, .ref p] ∧ Dr H d c n ∧ n ≤ 10 ^ 9 ∧ Pt H p fs st ∧ ∀ p' fs' st' H', Pt H' p' fs' st' → Dr H' d c (n + 30) → But d H H' → Q (.ref p') H'
theorem cut_lo {xs : List V} {m : Nat} : cutV xs none (some ((m : Nat) : Int)) = xs.take m := by
  unfold cutV
  rw [HT.sIx_nat, show HT.sIx xs.length 0 none = 0 from rfl, List.drop_zero, Nat.sub_zero]
  by_cases h : m ≤ xs.length
  · rw [Nat.min_eq_left h]
  · rw [Nat.min_eq_right (by omega), List.take_length, List.take_of_length_le (by omega)]
theorem cut_hi {xs : List V} {m : Nat} (h : m ≤ xs.length) : cutV xs (some ((m : Nat) : Int)) none = xs.drop m := by
  unfold cutV
  rw [HT.sIx_nat, HT.sIx_none, Nat.min_eq_left h]
  exact List.take_of_length_le (by rw [List.length_drop]; omega)
theorem ok_near (T : Tex K mg D) : FnOk P w K mg base CX0 5 D.a_near D.d_near P_near spNear := by
  have G_next : FnOk P w K mg base CX0 2 D.a_next D.d_next P_next spNext := ok_next T
  have G_number : FnOk P w K mg base CX0 3 D.a_number D.d_number P_number spNumb := ok_number T
  have G_parts : FnOk P w K mg base CX0 4 D.a_parts D.d_parts P_parts spPt := ok_parts T
  refine T.near_F.ok S_near (fun vs H Q E h => ?_) (fun cdv A outer s H vs Q E hr h => ?_)
  · obtain ⟨d, c, n, p, fs, st, rfl, _⟩ := h
    rfl
  · obtain ⟨d, c, n, p, fs, st, rfl, hd, hn, ⟨a, hp, ha, h0, h4, hb, hs⟩, q⟩ := h
    refine ⟨_, (pss_cons (ps_par3 (i := 2) (j := 3) (l := 4) rfl S_near.nd rfl rfl rfl (by decide) (by decide) (by decide) rfl rfl rfl (pa_cons (pe_callTy call_list_of (by rfl) T.b_list (by decide +kernel) (pa_cons (pe_ix ix_tup (pv 1) pe_int (fun _ _ => rfl)) pa_nil)) (pa_cons (pe_ix ix_tup (pv 1) pe_int (fun _ _ => rfl)) (pa_cons (pe_ix ix_tup (pv 1) pe_int (fun _ _ => rfl)) pa_nil))) (by rfl))
      (pss_cons (ps_set (i := 5) S_near.nd rfl (Or.inl rfl) (pe_call G_next (hr.mono (by decide)) (by rfl) T.next_g T.next_F.kp T.next_b .nil pass0 (pa_cons (pv 0) (pa_cons pe_int pa_nil))))
      (pss_cons (ps_if (pt_cmpR op_eq (pv 5) pe_int (nomark _)) (pss_one (ps_ret (pe_call G_parts (hr.mono (by decide)) (by rfl) T.parts_g T.parts_F.kp T.parts_b .nil pass0 (pa_cons (pv 0) pa_nil)))) pss_nil)
      (pss_cons (ps_if (pt_cmpR op_eq (pv 5) pe_int (nomark _)) (pss_one (ps_ret (pe_tup (pa_cons (pe_op op_cat (pv 2) (pe_op op_rep (pe_lst (pa_cons pe_int pa_nil)) (pe_op op_sub pe_int (pe_callB call_len_seq (by rfl) T.b_len (by decide +kernel) (pa_cons (pv 2) pa_nil))))) (pa_cons (pv 3) (pa_cons (pv 4) pa_nil)))))) pss_nil)
      (pss_cons (ps_if (pt_cmpR op_eq (pv 5) pe_int (nomark _)) (pss_cons (ps_set (i := 6) S_near.nd rfl (Or.inl rfl) (pe_call G_next (hr.mono (by decide)) (by rfl) T.next_g T.next_F.kp T.next_b .nil pass0 (pa_cons (pv 0) (pa_cons (pe_callB call_len_seq (by rfl) T.b_len (by decide +kernel) (pa_cons (pv 2) pa_nil)) pa_nil))))
      (pss_one (ps_ret (pe_tup (pa_cons (pe_op op_cat (pe_op op_cat (pe_slice sl_list (pv 2) po_none (po_some (pv 6))) (pe_lst (pa_cons (pe_call G_number (hr.mono (by decide)) (by rfl) T.number_g T.number_F.kp T.number_b .nil pass0 (pa_cons (pv 0) pa_nil)) pa_nil))) (pe_slice sl_list (pv 2) (po_some (pe_op op_add (pv 6) pe_int)) po_none)) (pa_cons (pv 3) (pa_cons (pv 4) pa_nil))))))) pss_nil)
      (pss_cons (ps_if (pt_cmpR op_eq (pv 5) pe_int (nomark _)) (pss_cons (ps_set (i := 3) S_near.nd rfl (Or.inl rfl) (pe_ix ix_list (pe_lst (pa_cons pe_str (pa_cons pe_str (pa_cons pe_str (pa_cons pe_str pa_nil))))) (pe_call G_next (hr.mono (by decide)) (by rfl) T.next_g T.next_F.kp T.next_b .nil pass0 (pa_cons (pv 0) (pa_cons pe_int pa_nil))) (fun _ _ => rfl)))
      (pss_one (ps_ret (pe_tup (pa_cons (pv 2) (pa_cons (pv 3) (pa_cons (pe_ifExp (pt_cmpR op_ne (pv 3) pe_str (nomark _)) (pv 4) pe_int) pa_nil))))))) pss_nil)
      (pss_one (ps_ret (pe_tup (pa_cons (pv 2) (pa_cons (pv 3) (pa_cons (pe_ifExp (pt_cmpR op_ne (pv 3) pe_str (nomark _)) (pe_call G_number (hr.mono (by decide)) (by rfl) T.number_g T.number_F.kp T.number_b .nil pass0 (pa_cons (pv 0) pa_nil)) pe_int) pa_nil)))))))))))), ?_⟩
    have hp1 : 1 ≤ fs.length := List.length_pos_iff.mpr h0
    have hm : st % 1000 < 1000 := by omega
    have hj : st / 1000 ≤ 3 := by omega
    have hst : st / 1000 * 1000 + st % 1000 = st := by omega
    have h30 : st / 1000 = 3 → st % 1000 = 0 := by omega
    refine ⟨_, rfl, p, _, _, _, rfl, rfl, sqT_of hp, atI_nat (j := 0) rfl, a, _, rfl, .inl (SqL.of ha), fun l hl => ?_⟩
    have s1 : Same H (upd H l (.lst (vN fs))) := same_new hl
    have hl1 : (upd H l (.lst (vN fs))) l = some (.lst (vN fs)) := upd_same
    revert s1 hl1
    generalize upd H l (.lst (vN fs)) = H1
    intro s1 hl1
    refine ⟨_, rfl, p, _, _, _, rfl, rfl, sqT_of (s1 _ _ hp), atI_nat (j := 1) rfl, _, rfl, p, _, _, _, rfl, rfl, sqT_of (s1 _ _ hp), atI_nat (j := 2) rfl, _, _, _, rfl, ?_⟩
    have D1 := hd.keep s1
    have ndl : d ≠ l := by
      obtain ⟨o, ho⟩ := D1.dict
      exact ne_of ho hl1 (by intro z; cases z)
    refine ⟨_, rfl, d, c, 5, n, rfl, D1, by omega, by decide, by decide, fun way H2 _ _ D2 b2 => ?_⟩
    have hl2 := b2 l _ hl1 ndl.symm
    have B2 := (But.of_same (d := d) s1).trans b2
    clear b2 s1 hl1 D1
    -- 0: fresh parts
    refine ⟨_, rfl, rfl, _, rfl, ite2 (fun _ => ?_) (fun _ => ?_)⟩
    · exact ⟨_, rfl, d, c, _, rfl, D2, by omega, fun p' fs' st' H3 P3 D3 b3 => q p' fs' st' H3 P3 (D3.mono (by omega)) (B2.trans b3)⟩
    -- 1: filled up
    refine ⟨_, rfl, rfl, _, rfl, ite2 (fun _ => ?_) (fun _ => ?_)⟩
    · refine ⟨_, rfl, by show 1 ≤ sizeLine; decide, fun z hz => ?_⟩
      have t1 : Same H2 (upd H2 z (.lst [.int 0])) := same_new hz
      have hz1 : (upd H2 z (.lst [.int 0])) z = some (.lst [.int 0]) := upd_same
      revert t1 hz1
      generalize upd H2 z (.lst [.int 0]) = H3
      intro t1 hz1
      have hk : ((4 : Int) - ((vN fs).length : Int)).toNat = 4 - fs.length := by
        rw [vN_len]
        omega
      refine ⟨_, rfl, l, _, rfl, .inl (SqL.of (t1 _ _ hl2)), _, _, rfl, rfl, z, _, _, rfl, rfl, hz1, by rw [vN_len]; omega, by rw [vN_len]; omega, by rw [hk]; exact szl (by simp only [List.length_cons, List.length_nil]; omega), fun z2 hz2 => ?_⟩
      rw [hk, rep_vN]
      have t2 : Same H2 (upd H3 z2 (.lst (vN (List.replicate (4 - fs.length) 0)))) := t1.trans (same_new hz2)
      have hz3 : (upd H3 z2 (.lst (vN (List.replicate (4 - fs.length) 0)))) z2 = some (.lst (vN (List.replicate (4 - fs.length) 0))) := upd_same
      revert t2 hz3
      generalize upd H3 z2 (.lst (vN (List.replicate (4 - fs.length) 0))) = H4
      intro t2 hz3
      refine ⟨l, z2, _, _, rfl, rfl, t2 _ _ hl2, hz3, by rw [vN_len, vN_len, List.length_replicate]; exact szl (by omega), fun z4 hz4 => ?_⟩
      rw [vN_app]
      have t3 : Same H2 (upd H4 z4 (.lst (vN (fs ++ List.replicate (4 - fs.length) 0)))) := t2.trans (same_new hz4)
      have hz5 : (upd H4 z4 (.lst (vN (fs ++ List.replicate (4 - fs.length) 0)))) z4 = some (.lst (vN (fs ++ List.replicate (4 - fs.length) 0))) := upd_same
      revert t3 hz5
      generalize upd H4 z4 (.lst (vN (fs ++ List.replicate (4 - fs.length) 0))) = H5
      intro t3 hz5
      refine ⟨_, rfl, _, rfl, by show 3 ≤ sizeLine; decide, fun t ht => ?_⟩
      refine q t (fs ++ List.replicate (4 - fs.length) 0) (st / 1000 * 1000 + st % 1000) _ (pt_of upd_same ((same_new ht) _ _ hz5) (by simp [h0]) ?_ ?_ hj hm h30) (((D2.keep t3).new ht).mono (by omega)) ((B2.trans (But.of_same t3)).new ht)
      · rw [List.length_append, List.length_replicate]
        omega
      · intro x hx
        rcases List.mem_append.mp hx with h | h
        · exact hb x h
        · rw [(List.mem_replicate.mp h).2]
          decide
    -- 2: one number anew
    refine ⟨_, rfl, rfl, _, rfl, ite2 (fun _ => ?_) (fun _ => ?_)⟩
    · refine ⟨_, rfl, _, rfl, l, _, rfl, .inl (SqL.of hl2), d, c, _, n + 1, rfl, D2, by omega, by rw [vN_len]; omega, by rw [vN_len]; omega, fun v H3 v0 v1 D3 b3 => ?_⟩
      rw [vN_len] at v1
      obtain ⟨m, rfl⟩ := Int.eq_ofNat_of_zero_le v0
      have hl3 := b3 l _ hl2 ndl.symm
      refine ⟨_, rfl, _, rfl, _, rfl, l, _, rfl, SqL.of hl3, fun k1 hk1 => ?_⟩
      have e1 : cutV (vN fs) none (some ((m : Nat) : Int)) = vN (fs.take m) := by rw [cut_lo, take_vN]
      rw [e1]
      have ndk : d ≠ k1 := D3.ne_new hk1
      refine ⟨_, rfl, d, c, _, rfl, D3.new hk1, by omega, fun y H4 hy D4 b4 => ⟨by show 1 ≤ sizeLine; decide, fun k2 hk2 => ?_⟩⟩
      have hk14 := b4 k1 _ upd_same ndk.symm
      have hl4 := b4 l _ ((same_new hk1) _ _ hl3) ndl.symm
      have t1 : Same H4 (upd H4 k2 (.lst [.int ((y : Nat) : Int)])) := same_new hk2
      refine ⟨k1, k2, _, _, rfl, rfl, t1 _ _ hk14, upd_same, ?_, fun k3 hk3 => ?_⟩
      · rw [vN_len, List.length_take]
        exact szl (by simp only [List.length_cons, List.length_nil]; omega)
      have e2 : vN (fs.take m) ++ [V.int ((y : Nat) : Int)] = vN (fs.take m ++ [y]) := vN_app (fs.take m) [y]
      rw [e2]
      have t2 := t1.trans (same_new (o := .lst (vN (fs.take m ++ [y]))) hk3)
      have hk33 : (upd (upd H4 k2 (.lst [.int ((y : Nat) : Int)])) k3 (.lst (vN (fs.take m ++ [y])))) k3 = some (.lst (vN (fs.take m ++ [y]))) := upd_same
      revert t2 hk33
      generalize upd (upd H4 k2 (.lst [.int ((y : Nat) : Int)])) k3 (.lst (vN (fs.take m ++ [y]))) = H5
      intro t2 hk33
      refine ⟨_, rfl, _, rfl, _, _, rfl, rfl, _, rfl, l, _, rfl, SqL.of (t2 _ _ hl4), fun k4 hk4 => ?_⟩
      have e3 : cutV (vN fs) (some (((m : Nat) : Int) + 1)) none = vN (fs.drop (m + 1)) := by
        rw [show ((m : Nat) : Int) + 1 = ((m + 1 : Nat) : Int) by omega, cut_hi (by rw [vN_len]; omega), drop_vN]
      show rCat _ _ _ _
      rw [e3]
      have t3 := t2.trans (same_new (o := .lst (vN (fs.drop (m + 1)))) hk4)
      refine ⟨k3, k4, _, _, rfl, rfl, (same_new hk4) _ _ hk33, upd_same, ?_, fun k5 hk5 => ?_⟩
      · rw [vN_len, vN_len, List.length_append, List.length_take, List.length_drop]
        exact szl (by simp only [List.length_cons, List.length_nil]; omega)
      rw [vN_app]
      have t4 := t3.trans (same_new (o := .lst (vN (fs.take m ++ [y] ++ fs.drop (m + 1)))) hk5)
      refine ⟨_, rfl, _, rfl, by show 3 ≤ sizeLine; decide, fun t ht => ?_⟩
      refine q t (fs.take m ++ [y] ++ fs.drop (m + 1)) (st / 1000 * 1000 + st % 1000) _ (pt_of upd_same ((same_new ht) _ _ upd_same) (by simp) ?_ ?_ hj hm h30) (((D4.keep t4).new ht).mono (by omega)) (((((B2.trans b3).new hk1).trans b4).trans (But.of_same t4)).new ht)
      · rw [List.length_append, List.length_append, List.length_take, List.length_drop]
        simp only [List.length_cons, List.length_nil]
        omega
      · intro x hx
        rcases List.mem_append.mp hx with h | h
        · rcases List.mem_append.mp h with h | h
          · exact hb x (List.mem_of_mem_take h)
          · rw [List.mem_singleton.mp h]
            exact hy
        · exact hb x (List.mem_of_mem_drop h)
    -- 3: the stage anew
    refine ⟨_, rfl, rfl, _, rfl, ite2 (fun _ => ?_) (fun _ => ?_)⟩
    · refine ⟨by show 4 ≤ sizeLine; decide, fun k hk => ?_⟩
      have ndk := D2.ne_new hk
      refine ⟨_, rfl, d, c, 4, _, rfl, D2.new hk, by omega, by decide, by decide, fun v2 H5 v20 v21 d7 b7 => ?_⟩
      have hk5 := b7 k _ upd_same ndk.symm
      have hl5 := b7 l _ ((same_new hk) _ _ hl2) ndl.symm
      obtain ⟨x, hx, mx⟩ := at_in (xs := [V.str "", .str "a", .str "b", .str "rc"]) v20 v21
      obtain ⟨j, hj', rfl⟩ := sw_four mx
      refine ⟨k, _, _, _, rfl, rfl, SqL.of hk5, hx, ?_⟩
      have b8 := (B2.new hk).trans b7
      refine ⟨_, rfl, _, rfl, _, rfl, rfl, _, rfl, ?_⟩
      rw [sw_ne hj']
      by_cases h3 : j = 3
      · rw [decide_eq_true h3]
        refine iteF ⟨by show 3 ≤ sizeLine; decide, fun t ht => ?_⟩
        exact q t fs (j * 1000 + 0) _ (pt_of upd_same ((same_new ht) _ _ hl5) h0 h4 hb hj' (by decide) (fun _ => rfl)) ((d7.new ht).mono (by omega)) (b8.new ht)
      · rw [decide_eq_false h3]
        refine iteT ⟨_, rfl, by show 3 ≤ sizeLine; decide, fun t ht => ?_⟩
        exact q t fs (j * 1000 + st % 1000) _ (pt_of upd_same ((same_new ht) _ _ hl5) h0 h4 hb hj' hm (fun e => absurd e h3)) ((d7.new ht).mono (by omega)) (b8.new ht)
    -- what stands behind it anew
    refine ⟨_, rfl, _, rfl, _, rfl, rfl, _, rfl, ?_⟩
    rw [sw_ne hj]
    by_cases h3 : st / 1000 = 3
    · rw [decide_eq_true h3]
      refine iteF ⟨by show 3 ≤ sizeLine; decide, fun t ht => ?_⟩
      exact q t fs (st / 1000 * 1000 + 0) _ (pt_of upd_same ((same_new ht) _ _ hl2) h0 h4 hb hj (by decide) (fun _ => rfl)) ((D2.new ht).mono (by omega)) (B2.new ht)
    · rw [decide_eq_false h3]
      refine iteT ⟨_, rfl, d, c, _, rfl, D2, by omega, fun m H6 hm' d8 b9 => ⟨by show 3 ≤ sizeLine; decide, fun t ht => ?_⟩⟩
      exact q t fs (st / 1000 * 1000 + m) _ (pt_of upd_same ((same_new ht) _ _ (b9 l _ hl2 ndl.symm)) h0 h4 hb hj hm' (fun e => absurd e h3)) ((d8.new ht).mono (by omega)) ((B2.trans b9).new ht)
end

/-! ## Figures -/
section
variable {P : Program} {w : World} {K : PySem.W.Frag} {mg : Str → Option Value} {base : Heap} {D : Ad}
open TL SX
def li (ns : List Nat) : List Int := ns.map fun (n : Nat) => (n : Int)
theorem vN_li (ns : List Nat) : vN ns = (li ns).map V.int := by
  unfold vN li
  rw [List.map_map]
  rfl
structure Fig (fs : List Nat) (st : Nat) : Prop where
  ne : fs ≠ []
  le : fs.length ≤ 4
  lt : ∀ n ∈ fs, n < 1000
  st : st ≤ 3000
theorem Pt.fig {H : Hp} {p : Addr} {fs : List Nat} {st : Nat} (h : Pt H p fs st) : Fig fs st := let ⟨_, _, _, a, b, c, d⟩ := h; ⟨a, b, c, d⟩
theorem Fig.six {fs : List Nat} {st : Nat} (h : Fig fs st) : ∃ a b c d, a < 1000 ∧ b < 1000 ∧ c < 1000 ∧ d < 1000 ∧ rowL fs st = [a, b, c, d, st / 1000, st % 1000] ∧ rk fs st = (((a * 1000 + b) * 1000 + c) * 1000 + d) * 3001 + st := by
  obtain ⟨a, b, c, d, e1, e2⟩ := pad4 h.ne h.le
  have hb : ∀ x ∈ [a, b, c, d], x < 1000 := by
    intro x hx
    rw [← e1] at hx
    rcases List.mem_append.mp hx with h' | h'
    · exact h.lt x h'
    · rw [(List.mem_replicate.mp h').2]
      decide
  refine ⟨a, b, c, d, hb a (by simp), hb b (by simp), hb c (by simp), hb d (by simp), ?_, ?_⟩
  · unfold rowL
    rw [e1]
    rfl
  · unfold rk
    rw [e2]
    simp only [List.foldl_cons, List.foldl_nil]
    omega
theorem Fig.last {fs : List Nat} {st : Nat} (h : Fig fs st) : rk fs st ≤ LAST := by
  obtain ⟨a, b, c, d, ha, hb, hc, hd, _, e⟩ := h.six
  have := h.st
  rw [e]
  unfold LAST
  omega
end

/-! ## Ranks and rows agree -/
section
variable {P : Program} {w : World} {K : PySem.W.Frag} {mg : Str → Option Value} {base : Heap} {D : Ad}
open TL SX
theorem row_eq {fs gs : List Nat} {s t : Nat} (h : Fig fs s) (g : Fig gs t) : decide (li (rowL fs s) = li (rowL gs t)) = decide (rk fs s = rk gs t) := by
  obtain ⟨a, b, c, d, ha, hb, hc, hd, e1, e2⟩ := h.six
  obtain ⟨a', b', c', d', ha', hb', hc', hd', e1', e2'⟩ := g.six
  have hs := h.st
  have ht := g.st
  rw [e1, e1', e2, e2']
  refine decide_eq_decide.mpr ⟨fun e => ?_, fun e => ?_⟩
  · simp only [li, List.map_cons, List.map_nil, List.cons.injEq, and_true] at e
    obtain ⟨h1, h2, h3, h4, h5, h6⟩ := e
    omega
  · simp only [li, List.map_cons, List.map_nil, List.cons.injEq, and_true]
    refine ⟨?_, ?_, ?_, ?_, ?_, ?_⟩ <;> omega
theorem row_lt {fs gs : List Nat} {s t : Nat} (h : Fig fs s) (g : Fig gs t) : PySem.W.listLt (li (rowL fs s)) (li (rowL gs t)) = decide (rk fs s < rk gs t) := by
  obtain ⟨a, b, c, d, ha, hb, hc, hd, e1, e2⟩ := h.six
  obtain ⟨a', b', c', d', ha', hb', hc', hd', e1', e2'⟩ := g.six
  have hs := h.st
  have ht := g.st
  rw [e1, e1', e2, e2']
  show (if (a : Int) = (a' : Int) then if (b : Int) = (b' : Int) then if (c : Int) = (c' : Int) then if (d : Int) = (d' : Int) then if ((s / 1000 : Nat) : Int) = ((t / 1000 : Nat) : Int) then if ((s % 1000 : Nat) : Int) = ((t % 1000 : Nat) : Int) then false
    else decide (((s % 1000 : Nat) : Int) < ((t % 1000 : Nat) : Int)) else decide (((s / 1000 : Nat) : Int) < ((t / 1000 : Nat) : Int)) else decide ((d : Int) < (d' : Int)) else decide ((c : Int) < (c' : Int)) else decide ((b : Int) < (b' : Int)) else decide ((a : Int) < (a' : Int))) = _
  by_cases q1 : (a : Int) = (a' : Int)
  · rw [if_pos q1]
    by_cases q2 : (b : Int) = (b' : Int)
    · rw [if_pos q2]
      by_cases q3 : (c : Int) = (c' : Int)
      · rw [if_pos q3]
        by_cases q4 : (d : Int) = (d' : Int)
        · rw [if_pos q4]
          by_cases q5 : ((s / 1000 : Nat) : Int) = ((t / 1000 : Nat) : Int)
          · rw [if_pos q5]
            by_cases q6 : ((s % 1000 : Nat) : Int) = ((t % 1000 : Nat) : Int)
            · rw [if_pos q6]
              exact (decide_eq_false (by omega)).symm
            · rw [if_neg q6]
              exact decide_eq_decide.mpr (by omega)
          · rw [if_neg q5]
            exact decide_eq_decide.mpr (by omega)
        · rw [if_neg q4]
          exact decide_eq_decide.mpr (by omega)
      · rw [if_neg q3]
        exact decide_eq_decide.mpr (by omega)
    · rw [if_neg q2]
      exact decide_eq_decide.mpr (by omega)
  · rw [if_neg q1]
    exact decide_eq_decide.mpr (by omega)
theorem tA_inj {r s : Nat} (hr : r ≤ LAST) (hs : s ≤ LAST) (h : tA r = tA s) : r = s := by
  have h1 := pT_tA hr
  rw [h, pT_tA hs] at h1
  have h2 := Option.some.inj h1
  injection h2 with h3 h4
  have e := rk_trim hr
  rw [← h3, ← h4, rk_trim hs] at e
  exact e.symm
theorem str_tA {r s : Nat} (hr : r ≤ LAST) (hs : s ≤ LAST) : decide (V.str (S (tA r)) = V.str (S (tA s))) = decide (r = s) := decide_eq_decide.mpr ⟨fun e => by
    injection e with e
    exact tA_inj hr hs (S_inj e), fun e => by rw [e]⟩
theorem trim_n4_ne (r : Nat) : trim (n4 r) ≠ [] := trim_ne (by simp [n4])
theorem shown6 (a b c d e f : Bool) : (PyData.shown (.list [.bool a, .bool b, .bool c, .bool d, .bool e, .bool f])).length ≤ sizeLine := by
  cases a <;> cases b <;> cases c <;> cases d <;> cases e <;> cases f <;> exact szl (by decide +kernel)
theorem dp6 {K : PySem.W.Frag} {H : Hp} {u : Addr} {a b c d e f : Bool} (h : H u = some (.lst [.bl a, .bl b, .bl c, .bl d, .bl e, .bl f])) : Dp K H (.ref u) (.list [.bool a, .bool b, .bool c, .bool d, .bool e, .bool f]) :=
  .lst (SqL.of h) (.cons (.bl _) (.cons (.bl _) (.cons (.bl _) (.cons (.bl _) (.cons (.bl _) (.cons (.bl _) .nil))))))
def spTwo : Sp := fun vs H Q _ => ∃ (p q : Addr) (fs gs : List Nat) (st tt : Nat), vs = [.ref p, .ref q] ∧ Pt H p fs st ∧ Pt H q gs tt ∧ ∀ H', Same H H' → Q (.bl true) H'
theorem vint_eq (a b : Nat) : decide (V.int ((a : Nat) : Int) = V.int ((b : Nat) : Int)) = decide (a = b) := decide_eq_decide.mpr ⟨fun e => by
    injection e with e
    omega, fun e => by rw [e]⟩
theorem ok_pair_right (T : Tex K mg D) : FnG P w K mg base 11 D.a_pair_right D.d_pair_right P_pair_right spTwo := by
  have G_written : FnOk P w K mg base CX0 1 D.a_written D.d_written P_written spWrit := ok_written T
  have G_row : FnOk P w K mg base CX0 1 D.a_row D.d_row P_row spRow := ok_row T
  have G_rank : FnOk P w K mg base CX0 2 D.a_rank D.d_rank P_rank spRkL := ok_rank T
  have G_Version_init : FnOk P w K mg base CX0 6 D.a_Version_init D.d_Version_init P_Version_init (spInit D.a_Version) := ok_Version_init T
  have G_Version_at : FnOk P w K mg base CX0 8 D.a_Version_at D.d_Version_at P_Version_at (spAt D.a_Version) := ok_Version_at T
  have G_Version_rank : FnOk P w K mg base CX0 1 D.a_Version_rank D.d_Version_rank P_Version_rank (spRk D.a_Version) := ok_Version_rank T
  have G_Version_eq : FnOk P w K mg base CX0 1 D.a_Version_eq D.d_Version_eq P_Version_eq (spEq K D.a_Version) := ok_Version_eq T
  have G_Version_lt : FnOk P w K mg base CX0 1 D.a_Version_lt D.d_Version_lt P_Version_lt (spCmp D.a_Version fun r s => decide (r < s)) := ok_Version_lt T
  have G_Version_le : FnOk P w K mg base CX0 1 D.a_Version_le D.d_Version_le P_Version_le (spCmp D.a_Version fun r s => decide (r ≤ s)) := ok_Version_le T
  have G_Version_gt : FnOk P w K mg base CX0 1 D.a_Version_gt D.d_Version_gt P_Version_gt (spCmp D.a_Version fun r s => decide (r > s)) := ok_Version_gt T
  have G_Version_ge : FnOk P w K mg base CX0 1 D.a_Version_ge D.d_Version_ge P_Version_ge (spCmp D.a_Version fun r s => decide (r ≥ s)) := ok_Version_ge T
  have G_Version_str : FnOk P w K mg base CX0 3 D.a_Version_str D.d_Version_str P_Version_str (spStr D.a_Version) := ok_Version_str T
  refine fnG_of T.pair_right_F S_pair_right (fun vs H Q E h => ?_) (fun cdv A outer s H vs Q hg hr h => ?_)
  · obtain ⟨p, q, fs, gs, st, tt, rfl, _⟩ := h
    rfl
  · obtain ⟨p1, p2, fs, gs, st, tt, rfl, hp, hq, q⟩ := h
    have hf := hp.fig
    have hg' := hq.fig
    have hfl := hf.last
    have hgl := hg'.last
    refine ⟨_, (pss_cons (ps_par (i := 2) (j := 3) (by rfl) S_pair_right.nd rfl rfl (by decide) rfl rfl (pa_cons (pe_make T.Version_mk G_Version_init (hr.mono (by decide)) rfl T.Version_g T.Version_init_b .nil pass0 (pa_cons (pe_call G_written (hr.mono (by decide)) (by rfl) T.written_g T.written_F.kp T.written_b .nil pass0 (pa_cons (pv 0) pa_nil)) pa_nil)) (pa_cons (pe_make T.Version_mk G_Version_init (hr.mono (by decide)) rfl T.Version_g T.Version_init_b .nil pass0 (pa_cons (pe_call G_written (hr.mono (by decide)) (by rfl) T.written_g T.written_F.kp T.written_b .nil pass0 (pa_cons (pv 1) pa_nil)) pa_nil)) pa_nil)) (by rfl))
      (pss_cons (ps_par (i := 4) (j := 5) (by rfl) S_pair_right.nd rfl rfl (by decide) rfl rfl (pa_cons (pe_call G_row (hr.mono (by decide)) (by rfl) T.row_g T.row_F.kp T.row_b .nil pass0 (pa_cons (pv 0) pa_nil)) (pa_cons (pe_call G_row (hr.mono (by decide)) (by rfl) T.row_g T.row_F.kp T.row_b .nil pass0 (pa_cons (pv 1) pa_nil)) pa_nil)) (by rfl))
      (pss_cons (ps_set (i := 6) S_pair_right.nd rfl (Or.inl rfl) (pe_lst (pa_cons (pe_cmpR (op_ownD (fun _ _ => rfl) T.Version_lt_at T.Version_lt_fn T.Version_nf (G_Version_lt.raw T.Version_lt_b .nil) (hr.mono (by decide)) pass0) (pv 2) (pv 3) (nomark _)) (pa_cons (pe_cmpR (op_ownD (fun _ _ => rfl) T.Version_le_at T.Version_le_fn T.Version_nf (G_Version_le.raw T.Version_le_b .nil) (hr.mono (by decide)) pass0) (pv 2) (pv 3) (nomark _)) (pa_cons (pe_cmpR (op_ownD (fun _ _ => rfl) T.Version_gt_at T.Version_gt_fn T.Version_nf (G_Version_gt.raw T.Version_gt_b .nil) (hr.mono (by decide)) pass0) (pv 2) (pv 3) (nomark _)) (pa_cons (pe_cmpR (op_ownD (fun _ _ => rfl) T.Version_ge_at T.Version_ge_fn T.Version_nf (G_Version_ge.raw T.Version_ge_b .nil) (hr.mono (by decide)) pass0) (pv 2) (pv 3) (nomark _)) (pa_cons (pe_cmpR (op_ownD (fun _ _ => rfl) T.Version_eq_at T.Version_eq_fn T.Version_nf (G_Version_eq.raw T.Version_eq_b .nil) (hr.mono (by decide)) pass0) (pv 2) (pv 3) (nomark _)) (pa_cons (pe_not (pe_cmpR (op_ownD (fun _ _ => rfl) T.Version_eq_at T.Version_eq_fn T.Version_nf (G_Version_eq.raw T.Version_eq_b .nil) (hr.mono (by decide)) pass0) (pv 2) (pv 3) (nomark _))) pa_nil))))))))
      (pss_cons (ps_if (pt_cmpR op_ne (pe_callB (call_repr hg hr.units) (by rfl) T.b_repr (by decide +kernel) (pa_cons (pv 6) pa_nil)) (pe_callB (call_repr hg hr.units) (by rfl) T.b_repr (by decide +kernel) (pa_cons (pe_lst (pa_cons (pe_cmpR (op_ltTI hr.units) (pv 4) (pv 5) (nomark _)) (pa_cons (pe_cmpR (op_leTI hr.units) (pv 4) (pv 5) (nomark _)) (pa_cons (pe_cmpR (op_gtTI hr.units) (pv 4) (pv 5) (nomark _)) (pa_cons (pe_cmpR (op_geTI hr.units) (pv 4) (pv 5) (nomark _)) (pa_cons (pe_cmpR (op_eqD hr.units) (pv 4) (pv 5) (nomark _)) (pa_cons (pe_cmpR (op_neD hr.units) (pv 4) (pv 5) (nomark _)) pa_nil))))))) pa_nil)) (nomark _)) (pss_one (ps_ret pe_bl)) pss_nil)
      (pss_cons (ps_if (PW.pt (pw_or (pt_cmpR op_ne (pe_cmpR op_eq (pe_callTy (call_strD T.Version_str_at T.Version_str_fn (G_Version_str.raw T.Version_str_b .nil) (hr.mono (by decide)) pass0) (by rfl) T.b_str (by decide +kernel) (pa_cons (pv 2) pa_nil)) (pe_callTy (call_strD T.Version_str_at T.Version_str_fn (G_Version_str.raw T.Version_str_b .nil) (hr.mono (by decide)) pass0) (by rfl) T.b_str (by decide +kernel) (pa_cons (pv 3) pa_nil)) (nomark _)) (pe_cmpR (op_eqD hr.units) (pv 4) (pv 5) (nomark _)) (nomark _)) (pw_or1 (pt_cmpR op_ne (pe_cmpR op_lt (pe_prop (pv 2) T.Version_cl T.Version_rank_p G_Version_rank (hr.mono (by decide)) T.Version_rank_b .nil pass0 rfl) (pe_prop (pv 3) T.Version_cl T.Version_rank_p G_Version_rank (hr.mono (by decide)) T.Version_rank_b .nil pass0 rfl) (nomark _)) (pe_cmpR (op_ltTI hr.units) (pv 4) (pv 5) (nomark _)) (nomark _))))) (pss_one (ps_ret pe_bl)) pss_nil)
      (pss_one (ps_ret (pe_and (pe_cmpR op_eq (pe_prop (pv 2) T.Version_cl T.Version_rank_p G_Version_rank (hr.mono (by decide)) T.Version_rank_b .nil pass0 rfl) (pe_call G_rank (hr.mono (by decide)) (by rfl) T.rank_g T.rank_F.kp T.rank_b .nil pass0 (pa_cons (pv 0) pa_nil)) (nomark _)) (pe_and (pe_cmpR (op_ownD (fun _ _ => rfl) T.Version_eq_at T.Version_eq_fn T.Version_nf (G_Version_eq.raw T.Version_eq_b .nil) (hr.mono (by decide)) pass0) (ClX.pe_cmeth (pe_glob (v := .ref D.a_Version) rfl T.Version_g rfl) T.Version_rd T.Version_at_c (G_Version_at.raw T.Version_at_b .nil) (hr.mono (by decide)) pass0 (pa_cons (pe_prop (pv 2) T.Version_cl T.Version_rank_p G_Version_rank (hr.mono (by decide)) T.Version_rank_b .nil pass0 rfl) pa_nil)) (pv 2) (nomark _)) (pe_one (pe_cmpR (op_ownD (fun _ _ => rfl) T.Version_eq_at T.Version_eq_fn T.Version_nf (G_Version_eq.raw T.Version_eq_b .nil) (hr.mono (by decide)) pass0) (pe_make T.Version_mk G_Version_init (hr.mono (by decide)) rfl T.Version_g T.Version_init_b .nil pass0 (pa_cons (pe_callTy (call_strD T.Version_str_at T.Version_str_fn (G_Version_str.raw T.Version_str_b .nil) (hr.mono (by decide)) pass0) (by rfl) T.b_str (by decide +kernel) (pa_cons (pv 2) pa_nil)) pa_nil)) (pv 2) (nomark _)))))))))))), ?_⟩
    -- the two versions
    have wl1 : (wrt fs st).length ≤ 80000 := by have := wrt_len (st := st) hf.lt; have := hf.le; omega
    have wl2 : (wrt gs tt).length ≤ 80000 := by have := wrt_len (st := tt) hg'.lt; have := hg'.le; omega
    refine ⟨_, rfl, p1, fs, st, rfl, hp, fun H1 s1 => fun x dx hx hdx _ => ⟨x, dx, _, fs, st, rfl, upd_same, wl1, pT_wrt hf.ne hf.le hf.lt hf.st, hf.ne, hf.le, fun H2 s2 => ⟨rfl, ?_⟩⟩⟩
    have t1 : Same H (upd H2 x (.ins D.a_Version dx [("_rank", .int (rk fs st : Nat))])) := s1.trans (make_same hx hdx s2)
    have v1 : Ver D.a_Version (upd H2 x (.ins D.a_Version dx [("_rank", .int (rk fs st : Nat))])) x (rk fs st) := ⟨dx, upd_same⟩
    clear s1 s2 hx hdx
    revert t1 v1
    generalize upd H2 x (.ins D.a_Version dx [("_rank", .int (rk fs st : Nat))]) = H3
    intro t1 v1
    refine ⟨_, rfl, p2, gs, tt, rfl, hq.keep t1, fun H4 s4 => fun y dy hy hdy _ => ⟨y, dy, _, gs, tt, rfl, upd_same, wl2, pT_wrt hg'.ne hg'.le hg'.lt hg'.st, hg'.ne, hg'.le, fun H5 s5 => ⟨rfl, _, _, rfl, ?_⟩⟩⟩
    have t2 : Same H3 (upd H5 y (.ins D.a_Version dy [("_rank", .int (rk gs tt : Nat))])) := s4.trans (make_same hy hdy s5)
    have v2 : Ver D.a_Version (upd H5 y (.ins D.a_Version dy [("_rank", .int (rk gs tt : Nat))])) y (rk gs tt) := ⟨dy, upd_same⟩
    clear s4 s5 hy hdy
    revert t2 v2
    generalize upd H5 y (.ins D.a_Version dy [("_rank", .int (rk gs tt : Nat))]) = H6
    intro t2 v2
    have v1 := v1.keep t2
    have t3 := t1.trans t2
    -- the two rows
    refine ⟨_, rfl, p1, fs, st, rfl, hp.keep t3, fun a H7 s7 ha => ⟨_, rfl, p2, gs, tt, rfl, hq.keep (t3.trans s7), fun b H8 s8 hb => ⟨_, _, rfl, ?_⟩⟩⟩
    have ha := s8 _ _ ha
    have t4 := (t3.trans s7).trans s8
    obtain ⟨dx, v1⟩ := v1.keep (s7.trans s8)
    obtain ⟨dy, v2⟩ := v2.keep (s7.trans s8)
    clear s7 s8 t3 t2 t1
    -- told
    refine ⟨_, rfl, _, rfl, x, dx, _, y, dy, _, rfl, rfl, v1, v2, x, y, _, _, rfl, ⟨dx, v1⟩, ⟨dy, v2⟩, ?_⟩
    refine ⟨_, rfl, _, rfl, x, dx, _, y, dy, _, rfl, rfl, v1, v2, x, y, _, _, rfl, ⟨dx, v1⟩, ⟨dy, v2⟩, ?_⟩
    refine ⟨_, rfl, _, rfl, x, dx, _, y, dy, _, rfl, rfl, v1, v2, x, y, _, _, rfl, ⟨dx, v1⟩, ⟨dy, v2⟩, ?_⟩
    refine ⟨_, rfl, _, rfl, x, dx, _, y, dy, _, rfl, rfl, v1, v2, x, y, _, _, rfl, ⟨dx, v1⟩, ⟨dy, v2⟩, ?_⟩
    refine ⟨_, rfl, _, rfl, x, dx, _, y, dy, _, rfl, rfl, v1, v2, x, _, _, rfl, ⟨dx, v1⟩, .inl ⟨y, _, rfl, ⟨dy, v2⟩, ?_⟩⟩
    refine ⟨_, rfl, _, rfl, x, dx, _, y, dy, _, rfl, rfl, v1, v2, x, _, _, rfl, ⟨dx, v1⟩, .inl ⟨y, _, rfl, ⟨dy, v2⟩, ?_⟩⟩
    generalize hr1 : rk fs st = r1 at *
    generalize hr2 : rk gs tt = r2 at *
    refine ⟨_, rfl, by show 6 ≤ sizeLine; decide, fun u hu => ?_⟩
    have eL := row_lt hf hg'
    have eG := row_lt hg' hf
    have eE := row_eq hf hg'
    rw [hr1, hr2] at eL eG eE
    have t5 := t4.trans (same_new (o := .lst [.bl (decide (r1 < r2)), .bl (decide (r1 ≤ r2)), .bl (decide (r1 > r2)), .bl (decide (r1 ≥ r2)), .bl (decide (r1 = r2)), .bl (!decide (r1 = r2))]) hu)
    have hu1 : (upd H8 u (.lst [.bl (decide (r1 < r2)), .bl (decide (r1 ≤ r2)), .bl (decide (r1 > r2)), .bl (decide (r1 ≥ r2)), .bl (decide (r1 = r2)), .bl (!decide (r1 = r2))])) u = some (.lst [.bl (decide (r1 < r2)), .bl (decide (r1 ≤ r2)), .bl (decide (r1 > r2)), .bl (decide (r1 ≥ r2)), .bl (decide (r1 = r2)), .bl (!decide (r1 = r2))]) := upd_same
    have v1 := (same_new (o := .lst [.bl (decide (r1 < r2)), .bl (decide (r1 ≤ r2)), .bl (decide (r1 > r2)), .bl (decide (r1 ≥ r2)), .bl (decide (r1 = r2)), .bl (!decide (r1 = r2))]) hu) _ _ v1
    have v2 := (same_new (o := .lst [.bl (decide (r1 < r2)), .bl (decide (r1 ≤ r2)), .bl (decide (r1 > r2)), .bl (decide (r1 ≥ r2)), .bl (decide (r1 = r2)), .bl (!decide (r1 = r2))]) hu) _ _ v2
    have ha := (same_new (o := .lst [.bl (decide (r1 < r2)), .bl (decide (r1 ≤ r2)), .bl (decide (r1 > r2)), .bl (decide (r1 ≥ r2)), .bl (decide (r1 = r2)), .bl (!decide (r1 = r2))]) hu) _ _ ha
    have hb := (same_new (o := .lst [.bl (decide (r1 < r2)), .bl (decide (r1 ≤ r2)), .bl (decide (r1 > r2)), .bl (decide (r1 ≥ r2)), .bl (decide (r1 = r2)), .bl (!decide (r1 = r2))]) hu) _ _ hb
    clear t4
    revert t5 hu1 v1 v2 ha hb
    show _ → _ → _ → _ → _ → _ → _
    generalize upd H8 u (.lst [.bl (decide (r1 < r2)), .bl (decide (r1 ≤ r2)), .bl (decide (r1 > r2)), .bl (decide (r1 ≥ r2)), .bl (decide (r1 = r2)), .bl (!decide (r1 = r2))]) = H9
    intro t5 hu1 v1 v2 ha hb
    rw [vN_li] at ha hb
    have qa := sqT_of (K := K) ha
    have qb := sqT_of (K := K) hb
    have da : Dp K H9 (.ref a) (.tuple ((li (rowL fs st)).map .int)) := .tup qa dp_ints
    have db : Dp K H9 (.ref b) (.tuple ((li (rowL gs tt)).map .int)) := .tup qb dp_ints
    refine ⟨_, rfl, _, _, rfl, dp6 hu1, rfl, rfl, Nat.le_of_ble_eq_true rfl, shown6 _ _ _ _ _ _, ?_⟩
    refine ⟨_, rfl, _, rfl, a, b, _, _, rfl, rfl, qa, qb, ?_⟩
    refine ⟨_, rfl, _, rfl, a, b, _, _, rfl, rfl, qa, qb, ?_⟩
    refine ⟨_, rfl, _, rfl, a, b, _, _, rfl, rfl, qa, qb, ?_⟩
    refine ⟨_, rfl, _, rfl, a, b, _, _, rfl, rfl, qa, qb, ?_⟩
    refine ⟨_, rfl, _, rfl, _, _, da, db, ints_shaped _, ints_shaped _, ?_⟩
    refine ⟨_, rfl, _, rfl, _, _, da, db, ints_shaped _, ints_shaped _, ?_⟩
    rw [ints_eqv, eE]
    refine ⟨by show 6 ≤ sizeLine; decide, fun k hk => ?_⟩
    have nl : ∀ i j : Nat, (!decide (j < i)) = decide (i ≤ j) := fun i j => by
      rw [Bool.eq_iff_iff, Bool.not_eq_true', decide_eq_false_iff_not, decide_eq_true_eq]
      omega
    have hk1 : (upd H9 k (.lst [.bl (PySem.W.listLt (li (rowL fs st)) (li (rowL gs tt))), .bl (!PySem.W.listLt (li (rowL gs tt)) (li (rowL fs st))), .bl (PySem.W.listLt (li (rowL gs tt)) (li (rowL fs st))), .bl (!PySem.W.listLt (li (rowL fs st)) (li (rowL gs tt))), .bl (decide (r1 = r2)), .bl (!decide (r1 = r2))])) k =
        some (.lst [.bl (decide (r1 < r2)), .bl (decide (r1 ≤ r2)), .bl (decide (r1 > r2)), .bl (decide (r1 ≥ r2)), .bl (decide (r1 = r2)), .bl (!decide (r1 = r2))]) := by
      rw [upd_same, eL, eG, nl, nl]
    have t6 := t5.trans (same_new (o := .lst [.bl (PySem.W.listLt (li (rowL fs st)) (li (rowL gs tt))), .bl (!PySem.W.listLt (li (rowL gs tt)) (li (rowL fs st))), .bl (PySem.W.listLt (li (rowL gs tt)) (li (rowL fs st))), .bl (!PySem.W.listLt (li (rowL fs st)) (li (rowL gs tt))), .bl (decide (r1 = r2)), .bl (!decide (r1 = r2))]) hk)
    have t7 := same_new (o := .lst [.bl (PySem.W.listLt (li (rowL fs st)) (li (rowL gs tt))), .bl (!PySem.W.listLt (li (rowL gs tt)) (li (rowL fs st))), .bl (PySem.W.listLt (li (rowL gs tt)) (li (rowL fs st))), .bl (!PySem.W.listLt (li (rowL fs st)) (li (rowL gs tt))), .bl (decide (r1 = r2)), .bl (!decide (r1 = r2))]) hk
    clear t5
    revert hk1 t6 t7
    generalize upd H9 k (.lst [.bl (PySem.W.listLt (li (rowL fs st)) (li (rowL gs tt))), .bl (!PySem.W.listLt (li (rowL gs tt)) (li (rowL fs st))), .bl (PySem.W.listLt (li (rowL gs tt)) (li (rowL fs st))), .bl (!PySem.W.listLt (li (rowL fs st)) (li (rowL gs tt))), .bl (decide (r1 = r2)), .bl (!decide (r1 = r2))]) = H10
    intro hk1 t6 t7
    have v1 := t7 _ _ v1
    have v2 := t7 _ _ v2
    have qa := sqT_keep t7 qa
    have qb := sqT_keep t7 qb
    clear da db
    refine ⟨_, _, rfl, dp6 hk1, rfl, rfl, Nat.le_of_ble_eq_true rfl, shown6 _ _ _ _ _ _, rfl, _, rfl, ?_⟩
    rw [decide_eq_true rfl]
    refine iteF ?_
    -- the texts and the ranks
    refine ⟨_, rfl, x, dx, _, rfl, v1, x, r1, rfl, ⟨dx, v1⟩, hfl, fun H11 s11 => ⟨_, rfl, ?_⟩⟩
    refine ⟨_, rfl, y, dy, _, rfl, s11 _ _ v2, y, r2, rfl, ⟨dy, s11 _ _ v2⟩, hgl, fun H12 s12 => ⟨_, rfl, rfl, ?_⟩⟩
    rw [str_tA hfl hgl]
    have t8 := s11.trans s12
    have v1 := t8 _ _ v1
    have v2 := t8 _ _ v2
    have qa := sqT_keep t8 qa
    have qb := sqT_keep t8 qb
    have t9 := t6.trans t8
    clear s11 s12 t6 t7 t8 hk1
    have da : Dp K H12 (.ref a) (.tuple ((li (rowL fs st)).map .int)) := .tup qa dp_ints
    have db : Dp K H12 (.ref b) (.tuple ((li (rowL gs tt)).map .int)) := .tup qb dp_ints
    refine ⟨_, rfl, _, rfl, _, _, da, db, ints_shaped _, ints_shaped _, rfl, _, rfl, ?_⟩
    rw [ints_eqv, eE, decide_eq_true rfl]
    refine iteF ?_
    refine ⟨_, rfl, x, dx, _, rfl, v1, x, r1, rfl, ⟨dx, v1⟩, _, rfl, y, dy, _, rfl, v2, y, r2, rfl, ⟨dy, v2⟩, _, _, rfl, rfl, ?_⟩
    refine ⟨_, rfl, _, rfl, a, b, _, _, rfl, rfl, qa, qb, rfl, _, rfl, ?_⟩
    have el : decide (((r1 : Nat) : Int) < ((r2 : Nat) : Int)) = decide (r1 < r2) := decide_eq_decide.mpr (by omega)
    show if (!decide (V.bl (decide (((r1 : Nat) : Int) < ((r2 : Nat) : Int))) = V.bl (PySem.W.listLt (li (rowL fs st)) (li (rowL gs tt))))) = true then _ else _
    rw [eL, el, decide_eq_true rfl]
    refine iteF ?_
    -- the first one's rank, and it made again
    refine ⟨_, rfl, x, dx, _, rfl, v1, x, r1, rfl, ⟨dx, v1⟩, _, rfl, p1, fs, st, rfl, hp.keep t9, fun H13 s13 => ⟨rfl, _, rfl, ?_⟩⟩
    rw [hr1, vint_eq, decide_eq_true rfl]
    have v1 := s13 _ _ v1
    refine iteT ⟨rfl, _, rfl, x, dx, _, rfl, v1, x, r1, rfl, ⟨dx, v1⟩, r1, rfl, hfl, fun z H14 s14 _ vz => ?_⟩
    obtain ⟨dz, vz⟩ := vz
    have v1 := s14 _ _ v1
    refine ⟨_, rfl, z, dz, _, x, dx, _, rfl, rfl, vz, v1, z, _, _, rfl, ⟨dz, vz⟩, .inl ⟨x, _, rfl, ⟨dx, v1⟩, _, rfl, ?_⟩⟩
    rw [decide_eq_true rfl]
    refine iteT ⟨_, rfl, x, dx, _, rfl, v1, x, r1, rfl, ⟨dx, v1⟩, hfl, fun H15 s15 => ⟨_, rfl, fun m dm hm hdm _ => ?_⟩⟩
    refine ⟨m, dm, tA r1, _, _, rfl, upd_same, by have := tA_len hfl; omega, pT_tA hfl, trim_n4_ne r1, n4_trim_len r1, fun H16 s16 => ⟨rfl, ?_⟩⟩
    have t10 := make_same (fs := [("_rank", .int (rk (trim (n4 r1)) (r1 % 3001) : Nat))]) hm hdm s16
    have v1 := t10 _ _ (s15 _ _ v1)
    rw [rk_trim hfl] at t10 v1 ⊢
    refine ⟨_, rfl, m, dm, _, x, dx, _, rfl, rfl, upd_same, v1, m, _, _, rfl, ⟨dm, upd_same⟩, .inl ⟨x, _, rfl, ⟨dx, v1⟩, ?_⟩⟩
    rw [decide_eq_true rfl]
    exact q _ ((((t9.trans s13).trans s14).trans s15).trans t10)
end

/-! ## Neighbours and ends -/
section
variable {P : Program} {w : World} {K : PySem.W.Frag} {mg : Str → Option Value} {base : Heap} {D : Ad}
open TL SX
def spNx : Sp := fun vs H Q _ => ∃ r : Nat, vs = [.int (r : Int)] ∧ r < LAST ∧ ∀ H', Same H H' → Q (.bl true) H'
theorem ok_next_right (T : Tex K mg D) : FnOk P w K mg base CX0 11 D.a_next_right D.d_next_right P_next_right spNx := by
  have G_parts_at : FnOk P w K mg base CX0 1 D.a_parts_at D.d_parts_at P_parts_at spPAt := ok_parts_at T
  have G_short : FnOk P w K mg base CX0 2 D.a_short D.d_short P_short spShort := ok_short T
  have G_Version_at : FnOk P w K mg base CX0 8 D.a_Version_at D.d_Version_at P_Version_at (spAt D.a_Version) := ok_Version_at T
  have G_Version_rank : FnOk P w K mg base CX0 1 D.a_Version_rank D.d_Version_rank P_Version_rank (spRk D.a_Version) := ok_Version_rank T
  have G_Version_lt : FnOk P w K mg base CX0 1 D.a_Version_lt D.d_Version_lt P_Version_lt (spCmp D.a_Version fun r s => decide (r < s)) := ok_Version_lt T
  have G_Version_str : FnOk P w K mg base CX0 3 D.a_Version_str D.d_Version_str P_Version_str (spStr D.a_Version) := ok_Version_str T
  refine T.next_right_F.ok S_next_right (fun vs H Q E h => ?_) (fun cdv A outer s H vs Q E hr h => ?_)
  · obtain ⟨r, rfl, _⟩ := h
    rfl
  · obtain ⟨r, rfl, hl, q⟩ := h
    refine ⟨_, (pss_cons (ps_par (i := 1) (j := 2) (by rfl) S_next_right.nd rfl rfl (by decide) rfl rfl (pa_cons (ClX.pe_cmeth (pe_glob (v := .ref D.a_Version) rfl T.Version_g rfl) T.Version_rd T.Version_at_c (G_Version_at.raw T.Version_at_b .nil) (hr.mono (by decide)) pass0 (pa_cons (pv 0) pa_nil)) (pa_cons (ClX.pe_cmeth (pe_glob (v := .ref D.a_Version) rfl T.Version_g rfl) T.Version_rd T.Version_at_c (G_Version_at.raw T.Version_at_b .nil) (hr.mono (by decide)) pass0 (pa_cons (pe_op op_add (pv 0) pe_int) pa_nil)) pa_nil)) (by rfl))
      (pss_cons (ps_if (PW.pt (pw_or (pt_not (pt_cmpR (op_ownD (fun _ _ => rfl) T.Version_lt_at T.Version_lt_fn T.Version_nf (G_Version_lt.raw T.Version_lt_b .nil) (hr.mono (by decide)) pass0) (pv 1) (pv 2) (nomark _))) (pw_or (pt_cmpR (op_ownD (fun _ _ => rfl) T.Version_lt_at T.Version_lt_fn T.Version_nf (G_Version_lt.raw T.Version_lt_b .nil) (hr.mono (by decide)) pass0) (pv 2) (pv 1) (nomark _)) (pw_or1 (pt_cmpR op_ne (pe_prop (pv 2) T.Version_cl T.Version_rank_p G_Version_rank (hr.mono (by decide)) T.Version_rank_b .nil pass0 rfl) (pe_op op_add (pe_prop (pv 1) T.Version_cl T.Version_rank_p G_Version_rank (hr.mono (by decide)) T.Version_rank_b .nil pass0 rfl) pe_int) (nomark _)))))) (pss_one (ps_ret pe_bl)) pss_nil)
      (pss_one (ps_ret (pe_and (pe_cmpR op_eq (pe_callTy (call_strD T.Version_str_at T.Version_str_fn (G_Version_str.raw T.Version_str_b .nil) (hr.mono (by decide)) pass0) (by rfl) T.b_str (by decide +kernel) (pa_cons (pv 1) pa_nil)) (pe_call G_short (hr.mono (by decide)) (by rfl) T.short_g T.short_F.kp T.short_b .nil pass0 (pa_cons (pe_call G_parts_at (hr.mono (by decide)) (by rfl) T.parts_at_g T.parts_at_F.kp T.parts_at_b .nil pass0 (pa_cons (pv 0) pa_nil)) pa_nil)) (nomark _)) (pe_one (pe_cmpR op_eq (pe_callTy (call_strD T.Version_str_at T.Version_str_fn (G_Version_str.raw T.Version_str_b .nil) (hr.mono (by decide)) pass0) (by rfl) T.b_str (by decide +kernel) (pa_cons (pv 2) pa_nil)) (pe_call G_short (hr.mono (by decide)) (by rfl) T.short_g T.short_F.kp T.short_b .nil pass0 (pa_cons (pe_call G_parts_at (hr.mono (by decide)) (by rfl) T.parts_at_g T.parts_at_F.kp T.parts_at_b .nil pass0 (pa_cons (pe_op op_add (pv 0) pe_int) pa_nil)) pa_nil)) (nomark _)))))))), ?_⟩
    have h0 : r ≤ LAST := by omega
    have h1 : r + 1 ≤ LAST := by omega
    refine ⟨rfl, _, rfl, r, rfl, h0, fun x H1 s1 _ vx => ⟨rfl, _, rfl, _, _, rfl, rfl, r + 1, rfl, h1, fun y H2 s2 _ vy => ⟨_, _, rfl, ?_⟩⟩⟩
    obtain ⟨dx, vx⟩ := vx.keep s2
    obtain ⟨dy, vy⟩ := vy
    have t1 := s1.trans s2
    clear s1 s2
    refine ⟨_, rfl, _, rfl, x, dx, _, y, dy, _, rfl, rfl, vx, vy, x, y, _, _, rfl, ⟨dx, vx⟩, ⟨dy, vy⟩, true, (by show V.bl (decide (r < r + 1)) = _; rw [decide_eq_true (by omega)]), ?_⟩
    refine iteF ⟨_, rfl, _, rfl, y, dy, _, x, dx, _, rfl, rfl, vy, vx, y, x, _, _, rfl, ⟨dy, vy⟩, ⟨dx, vx⟩, false, (by show V.bl (decide (r + 1 < r)) = _; rw [decide_eq_false (by omega)]), ?_⟩
    refine iteF ⟨_, rfl, y, dy, _, rfl, vy, y, _, rfl, ⟨dy, vy⟩, _, rfl, x, dx, _, rfl, vx, x, _, rfl, ⟨dx, vx⟩, _, _, rfl, rfl, rfl, _, rfl, ?_⟩
    rw [decide_eq_true (show V.int ((r + 1 : Nat) : Int) = V.int ((r : Int) + 1) from rfl)]
    refine iteF ?_
    refine ⟨_, rfl, x, dx, _, rfl, vx, x, r, rfl, ⟨dx, vx⟩, h0, fun H3 s3 => ⟨_, rfl, _, rfl, r, rfl, h0, fun p H4 s4 pt => ⟨p, _, _, rfl, pt, fun H5 s5 => ⟨rfl, _, rfl, ?_⟩⟩⟩⟩
    rw [decide_eq_true (show V.str (S (tA r)) = V.str (S (wrt (trim (n4 r)) (r % 3001))) from rfl)]
    have t2 := (s3.trans s4).trans s5
    have vy := t2 _ _ vy
    refine iteT ⟨_, rfl, y, dy, _, rfl, vy, y, r + 1, rfl, ⟨dy, vy⟩, h1, fun H6 s6 => ⟨_, rfl, _, rfl, _, _, rfl, rfl, r + 1, rfl, h1, fun p H7 s7 pt => ⟨p, _, _, rfl, pt, fun H8 s8 => ⟨rfl, ?_⟩⟩⟩⟩
    rw [decide_eq_true (show V.str (S (tA (r + 1))) = V.str (S (wrt (trim (n4 (r + 1))) ((r + 1) % 3001))) from rfl)]
    exact q _ (((t1.trans t2).trans (s6.trans s7)).trans s8)
/-! ### the ends -/
def two : Nat := 2000000000 * 3001 + 3000
theorem pT_two : pT [50] = some ([2], 3000) := by decide +kernel
theorem rk_two : rk [2] 3000 = two := by decide +kernel
theorem txt_two : (("2" : String) : Str) = S [50] := by decide +kernel
theorem txt_0a0 : S (tA 0) = (("0a0" : String) : Str) := by decide +kernel
theorem txt_last : S (tA LAST) = (("999.999.999.999" : String) : Str) := by decide +kernel
theorem txt_next : S (tA (two + 1)) = (("2.0.0.1a0" : String) : Str) := by decide +kernel
theorem txt_prev : S (tA (two - 1)) = (("2rc999" : String) : Str) := by decide +kernel
def spEnds : Sp := fun vs H Q _ => vs = [] ∧ ∀ H', Same H H' → Q (.bl true) H'
theorem ok_ends_right (T : Tex K mg D) : FnOk P w K mg base CX0 10 D.a_ends_right D.d_ends_right P_ends_right spEnds := by
  have G_Version_init : FnOk P w K mg base CX0 6 D.a_Version_init D.d_Version_init P_Version_init (spInit D.a_Version) := ok_Version_init T
  have G_Version_at : FnOk P w K mg base CX0 8 D.a_Version_at D.d_Version_at P_Version_at (spAt D.a_Version) := ok_Version_at T
  have G_Version_rank : FnOk P w K mg base CX0 1 D.a_Version_rank D.d_Version_rank P_Version_rank (spRk D.a_Version) := ok_Version_rank T
  have G_Version_str : FnOk P w K mg base CX0 3 D.a_Version_str D.d_Version_str P_Version_str (spStr D.a_Version) := ok_Version_str T
  refine T.ends_right_F.ok S_ends_right (fun vs H Q E h => ?_) (fun cdv A outer s H vs Q E hr h => ?_)
  · obtain ⟨rfl, _⟩ := h
    rfl
  · obtain ⟨rfl, q⟩ := h
    refine ⟨_, (pss_cons (ps_par (i := 0) (j := 1) (by rfl) S_ends_right.nd rfl rfl (by decide) rfl rfl (pa_cons (ClX.pe_cmeth (pe_glob (v := .ref D.a_Version) rfl T.Version_g rfl) T.Version_rd T.Version_at_c (G_Version_at.raw T.Version_at_b .nil) (hr.mono (by decide)) pass0 (pa_cons pe_int pa_nil)) (pa_cons (ClX.pe_cmeth (pe_glob (v := .ref D.a_Version) rfl T.Version_g rfl) T.Version_rd T.Version_at_c (G_Version_at.raw T.Version_at_b .nil) (hr.mono (by decide)) pass0 (pa_cons (ClX.pe_cval (pe_glob (v := .ref D.a_Version) rfl T.Version_g rfl)) pa_nil)) pa_nil)) (by rfl))
      (pss_cons (ps_if (pt_cmpR (op_neD hr.units) (pe_lst (pa_cons (pe_callTy (call_strD T.Version_str_at T.Version_str_fn (G_Version_str.raw T.Version_str_b .nil) (hr.mono (by decide)) pass0) (by rfl) T.b_str (by decide +kernel) (pa_cons (pv 0) pa_nil)) (pa_cons (pe_callTy (call_strD T.Version_str_at T.Version_str_fn (G_Version_str.raw T.Version_str_b .nil) (hr.mono (by decide)) pass0) (by rfl) T.b_str (by decide +kernel) (pa_cons (pv 1) pa_nil)) (pa_cons (pe_callTy (call_strD T.Version_str_at T.Version_str_fn (G_Version_str.raw T.Version_str_b .nil) (hr.mono (by decide)) pass0) (by rfl) T.b_str (by decide +kernel) (pa_cons (ClX.pe_cmeth (pe_glob (v := .ref D.a_Version) rfl T.Version_g rfl) T.Version_rd T.Version_at_c (G_Version_at.raw T.Version_at_b .nil) (hr.mono (by decide)) pass0 (pa_cons (pe_op op_add (pe_prop (pe_make T.Version_mk G_Version_init (hr.mono (by decide)) rfl T.Version_g T.Version_init_b .nil pass0 (pa_cons pe_str pa_nil)) T.Version_cl T.Version_rank_p G_Version_rank (hr.mono (by decide)) T.Version_rank_b .nil pass0 rfl) pe_int) pa_nil)) pa_nil)) pa_nil)))) (pe_lst (pa_cons pe_str (pa_cons pe_str (pa_cons pe_str pa_nil)))) (nomark _)) (pss_one (ps_ret pe_bl)) pss_nil)
      (pss_one (ps_ret (pe_and (pe_cmpR op_eq (pe_callTy (call_strD T.Version_str_at T.Version_str_fn (G_Version_str.raw T.Version_str_b .nil) (hr.mono (by decide)) pass0) (by rfl) T.b_str (by decide +kernel) (pa_cons (ClX.pe_cmeth (pe_glob (v := .ref D.a_Version) rfl T.Version_g rfl) T.Version_rd T.Version_at_c (G_Version_at.raw T.Version_at_b .nil) (hr.mono (by decide)) pass0 (pa_cons (pe_op op_sub (pe_prop (pe_make T.Version_mk G_Version_init (hr.mono (by decide)) rfl T.Version_g T.Version_init_b .nil pass0 (pa_cons pe_str pa_nil)) T.Version_cl T.Version_rank_p G_Version_rank (hr.mono (by decide)) T.Version_rank_b .nil pass0 rfl) pe_int) pa_nil)) pa_nil)) pe_str (nomark _)) (pe_and (pe_cmpR op_eq (pe_prop (pv 0) T.Version_cl T.Version_rank_p G_Version_rank (hr.mono (by decide)) T.Version_rank_b .nil pass0 rfl) pe_int (nomark _)) (pe_one (pe_cmpR op_eq (pe_prop (pv 1) T.Version_cl T.Version_rank_p G_Version_rank (hr.mono (by decide)) T.Version_rank_b .nil pass0 rfl) pe_int (nomark _))))))))), ?_⟩
    refine ⟨rfl, 0, rfl, Nat.zero_le _, fun x H1 s1 _ vx => ⟨rfl, D.a_Version, _, _, _, rfl, T.Version_rd, T.Version_LAST, LAST, rfl, Nat.le_refl _, fun y H2 s2 _ vy => ⟨_, _, rfl, ?_⟩⟩⟩
    obtain ⟨dx, vx⟩ := vx.keep s2
    obtain ⟨dy, vy⟩ := vy
    have t1 := s1.trans s2
    clear s1 s2
    refine ⟨_, rfl, x, dx, _, rfl, vx, x, 0, rfl, ⟨dx, vx⟩, Nat.zero_le _, fun H3 s3 => ⟨_, rfl, ?_⟩⟩
    refine ⟨_, rfl, y, dy, _, rfl, s3 _ _ vy, y, LAST, rfl, ⟨dy, s3 _ _ vy⟩, Nat.le_refl _, fun H4 s4 => ⟨_, rfl, ?_⟩⟩
    have t2 := t1.trans (s3.trans s4)
    have vx := s4 _ _ (s3 _ _ vx)
    have vy := s4 _ _ (s3 _ _ vy)
    clear s3 s4 t1
    refine ⟨rfl, fun m dm hm hdm _ => ⟨m, dm, [50], [2], 3000, (by rw [txt_two]; rfl), upd_same, by decide, pT_two, by decide, by decide, fun H5 s5 => ⟨rfl, ?_⟩⟩⟩
    have t3 := make_same (fs := [("_rank", .int (rk [2] 3000 : Nat))]) hm hdm s5
    have vm : Ver D.a_Version (upd H5 m (.ins D.a_Version dm [("_rank", .int (rk [2] 3000 : Nat))])) m (rk [2] 3000) := ⟨dm, upd_same⟩
    revert t3 vm
    generalize upd H5 m (.ins D.a_Version dm [("_rank", .int (rk [2] 3000 : Nat))]) = H6
    intro t3 vm
    rw [rk_two] at vm
    obtain ⟨dm', vm⟩ := vm
    refine ⟨m, dm', _, rfl, vm, m, two, rfl, ⟨dm', vm⟩, _, _, rfl, rfl, two + 1, rfl, by decide, fun z H7 s7 _ vz => ?_⟩
    obtain ⟨dz, vz⟩ := vz
    refine ⟨z, dz, _, rfl, vz, z, two + 1, rfl, ⟨dz, vz⟩, by decide, fun H8 s8 => ⟨_, rfl, by show 3 ≤ sizeLine; decide, fun k hk => ⟨by show 3 ≤ sizeLine; decide, fun j hj => ?_⟩⟩⟩
    have t4 := ((t2.trans t3).trans s7).trans s8
    have u1 := same_new (o := .lst [.str (S (tA 0)), .str (S (tA LAST)), .str (S (tA (two + 1)))]) hk
    have u2 := u1.trans (same_new (o := .lst [.str "0a0", .str "999.999.999.999", .str "2.0.0.1a0"]) hj)
    have t5 := t4.trans u2
    have vx := u2 _ _ (s8 _ _ (s7 _ _ (t3 _ _ vx)))
    have vy := u2 _ _ (s8 _ _ (s7 _ _ (t3 _ _ vy)))
    have hk1 := (same_new (o := .lst [.str "0a0", .str "999.999.999.999", .str "2.0.0.1a0"]) hj) _ _ (upd_same (H := H8) (a := k) (o := .lst [.str (S (tA 0)), .str (S (tA LAST)), .str (S (tA (two + 1)))]))
    have hj1 : (upd (upd H8 k (.lst [.str (S (tA 0)), .str (S (tA LAST)), .str (S (tA (two + 1)))])) j (.lst [.str "0a0", .str "999.999.999.999", .str "2.0.0.1a0"])) j = some (.lst [.str "0a0", .str "999.999.999.999", .str "2.0.0.1a0"]) := upd_same
    revert t5 vx vy hk1 hj1
    generalize upd (upd H8 k (.lst [.str (S (tA 0)), .str (S (tA LAST)), .str (S (tA (two + 1)))])) j (.lst [.str "0a0", .str "999.999.999.999", .str "2.0.0.1a0"]) = H9
    intro t5 vx vy hk1 hj1
    rw [txt_0a0, txt_last, txt_next] at hk1
    refine ⟨.list [.str "0a0", .str "999.999.999.999", .str "2.0.0.1a0"], .list [.str "0a0", .str "999.999.999.999", .str "2.0.0.1a0"], .lst (SqL.of hk1) (.cons (.str _) (.cons (.str _) (.cons (.str _) .nil))), .lst (SqL.of hj1) (.cons (.str _) (.cons (.str _) (.cons (.str _) .nil))), by decide +kernel, by decide +kernel, _, rfl, ?_⟩
    rw [show PyData.eqv (.list [.str "0a0", .str "999.999.999.999", .str "2.0.0.1a0"]) (.list [.str "0a0", .str "999.999.999.999", .str "2.0.0.1a0"]) = true by decide +kernel]
    refine iteF ?_
    refine ⟨rfl, fun m dm hm hdm _ => ⟨m, dm, [50], [2], 3000, (by rw [txt_two]; rfl), upd_same, by decide, pT_two, by decide, by decide, fun H5 s5 => ⟨rfl, ?_⟩⟩⟩
    have t3 := make_same (fs := [("_rank", .int (rk [2] 3000 : Nat))]) hm hdm s5
    have vm : Ver D.a_Version (upd H5 m (.ins D.a_Version dm [("_rank", .int (rk [2] 3000 : Nat))])) m (rk [2] 3000) := ⟨dm, upd_same⟩
    revert t3 vm
    generalize upd H5 m (.ins D.a_Version dm [("_rank", .int (rk [2] 3000 : Nat))]) = H10
    intro t3 vm
    rw [rk_two] at vm
    obtain ⟨dm', vm⟩ := vm
    refine ⟨m, dm', _, rfl, vm, m, two, rfl, ⟨dm', vm⟩, _, _, rfl, rfl, two - 1, ?_, by decide, fun z H11 s11 _ vz => ?_⟩
    · show [V.ref D.a_Version, .int (((two : Nat) : Int) - 1)] = _
      rw [show ((two : Nat) : Int) - 1 = ((two - 1 : Nat) : Int) by decide]
    obtain ⟨dz, vz⟩ := vz
    refine ⟨z, dz, _, rfl, vz, z, two - 1, rfl, ⟨dz, vz⟩, by decide, fun H12 s12 => ⟨_, rfl, rfl, _, rfl, ?_⟩⟩
    rw [txt_prev, decide_eq_true rfl]
    have vx := s12 _ _ (s11 _ _ (t3 _ _ vx))
    have vy := s12 _ _ (s11 _ _ (t3 _ _ vy))
    refine iteT ⟨_, rfl, x, dx, _, rfl, vx, x, 0, rfl, ⟨dx, vx⟩, rfl, _, rfl, ?_⟩
    rw [decide_eq_true (show V.int ((0 : Nat) : Int) = V.int 0 from rfl)]
    refine iteT ⟨_, rfl, y, dy, _, rfl, vy, y, LAST, rfl, ⟨dy, vy⟩, rfl, ?_⟩
    rw [decide_eq_true (show V.int ((LAST : Nat) : Int) = V.int 3000999999999999 from rfl)]
    exact q _ (((t5.trans t3).trans s11).trans s12)
end

/-! ## The law -/
section
variable {P : Program} {w : World} {K : PySem.W.Frag} {mg : Str → Option Value} {base : Heap} {D : Ad}
open TL SX
theorem pT_one : pT [49] = some ([1], 3000) := by decide +kernel
theorem txt_one : (("1" : String) : Str) = S [49] := by decide +kernel
def spLaw (K : PySem.W.Frag) : Sp := fun vs H Q _ => ∃ (a : Addr) (ns : List Int), vs = [.ref a] ∧ Bare K H a (ns.map V.int) ∧ ns.length ≤ 63 ∧ ∀ H', Q (.bl true) H'
theorem ok_law (T : Tex K mg D) : FnG P w K mg base 12 D.a_law D.d_law P_law (spLaw K) := by
  have G_begin : FnOk P w K mg base CX0 1 D.a_begin D.d_begin P_begin (spBegin K) := ok_begin T
  have G_parts : FnOk P w K mg base CX0 4 D.a_parts D.d_parts P_parts spPt := ok_parts T
  have G_near : FnOk P w K mg base CX0 5 D.a_near D.d_near P_near spNear := ok_near T
  have G_written : FnOk P w K mg base CX0 1 D.a_written D.d_written P_written spWrit := ok_written T
  have G_row : FnOk P w K mg base CX0 1 D.a_row D.d_row P_row spRow := ok_row T
  have G_rank : FnOk P w K mg base CX0 2 D.a_rank D.d_rank P_rank spRkL := ok_rank T
  have G_pair_right : FnG P w K mg base 11 D.a_pair_right D.d_pair_right P_pair_right spTwo := ok_pair_right T
  have G_next_right : FnOk P w K mg base CX0 11 D.a_next_right D.d_next_right P_next_right spNx := ok_next_right T
  have G_ends_right : FnOk P w K mg base CX0 10 D.a_ends_right D.d_ends_right P_ends_right spEnds := ok_ends_right T
  have G_Version_init : FnOk P w K mg base CX0 6 D.a_Version_init D.d_Version_init P_Version_init (spInit D.a_Version) := ok_Version_init T
  have G_Version_at : FnOk P w K mg base CX0 8 D.a_Version_at D.d_Version_at P_Version_at (spAt D.a_Version) := ok_Version_at T
  have G_Version_eq : FnOk P w K mg base CX0 1 D.a_Version_eq D.d_Version_eq P_Version_eq (spEq K D.a_Version) := ok_Version_eq T
  refine fnG_of T.law_F S_law (fun vs H Q E h => ?_) (fun cdv A outer s H vs Q hg hr h => ?_)
  · obtain ⟨a, ns, rfl, _⟩ := h
    rfl
  · obtain ⟨a, ns, rfl, hb, hl, q⟩ := h
    refine ⟨_, (pss_cons (ps_set (i := 1) S_law.nd rfl (Or.inl rfl) (pe_call G_begin (hr.mono (by decide)) (by rfl) T.begin_g T.begin_F.kp T.begin_b .nil pass0 (pa_cons (pv 0) pa_nil)))
      (pss_cons (ps_if (pt_not (pt_val (pe_call0 G_ends_right (hr.mono (by decide)) (by rfl) T.ends_right_g T.ends_right_F.kp T.ends_right_b .nil pass0))) (pss_one (ps_ret pe_bl)) pss_nil)
      (pss_cons (ps_for PassesOwn.never rfl (pi_range1 rfl T.b_range (pa_cons (pe_callB (call_min2 rfl) (by rfl) T.b_min (by decide +kernel) (pa_cons pe_int (pa_cons (pe_op op_add pe_int (pe_callB call_len_seq (by rfl) T.b_len (by decide +kernel) (pa_cons (pv 0) pa_nil))) pa_nil))) pa_nil)) (pg_name (i := 2) S_law.nd rfl (Or.inl rfl)) (pss_cons (ps_set (i := 3) S_law.nd rfl (Or.inl rfl) (pe_call G_parts (hr.mono (by decide)) (by rfl) T.parts_g T.parts_F.kp T.parts_b .nil pass0 (pa_cons (pv 1) pa_nil)))
      (pss_cons (ps_set (i := 4) S_law.nd rfl (Or.inl rfl) (pe_call G_near (hr.mono (by decide)) (by rfl) T.near_g T.near_F.kp T.near_b .nil pass0 (pa_cons (pv 1) (pa_cons (pv 3) pa_nil))))
      (pss_cons (ps_if (PW.pt (pw_or (pt_not (pt_val (pe_callG G_pair_right hg (hr.mono (by decide)) (by rfl) T.pair_right_g T.pair_right_F.kp T.pair_right_b (pa_cons (pv 3) (pa_cons (pv 4) pa_nil))))) (pw_or (pt_not (pt_val (pe_callG G_pair_right hg (hr.mono (by decide)) (by rfl) T.pair_right_g T.pair_right_F.kp T.pair_right_b (pa_cons (pv 4) (pa_cons (pv 3) pa_nil))))) (pw_or1 (pt_not (pt_val (pe_callG G_pair_right hg (hr.mono (by decide)) (by rfl) T.pair_right_g T.pair_right_F.kp T.pair_right_b (pa_cons (pv 3) (pa_cons (pv 3) pa_nil))))))))) (pss_one (ps_ret pe_bl)) pss_nil)
      (pss_cons (ps_set (i := 5) S_law.nd rfl (Or.inl rfl) (pe_callB (call_min2 rfl) (by rfl) T.b_min (by decide +kernel) (pa_cons (pe_call G_rank (hr.mono (by decide)) (by rfl) T.rank_g T.rank_F.kp T.rank_b .nil pass0 (pa_cons (pv 3) pa_nil)) (pa_cons pe_int pa_nil))))
      (pss_cons (ps_if (PW.pt (pw_or (pt_not (pt_val (pe_call G_next_right (hr.mono (by decide)) (by rfl) T.next_right_g T.next_right_F.kp T.next_right_b .nil pass0 (pa_cons (pv 5) pa_nil)))) (pw_or1 (pt_not (pt_val (pe_call G_next_right (hr.mono (by decide)) (by rfl) T.next_right_g T.next_right_F.kp T.next_right_b .nil pass0 (pa_cons (pe_callB (call_max2 rfl) (by rfl) T.b_max (by decide +kernel) (pa_cons pe_int (pa_cons (pe_op op_sub (pv 5) pe_int) pa_nil))) pa_nil))))))) (pss_one (ps_ret pe_bl)) pss_nil)
      (pss_one (ps_for PassesOwn.never rfl (pi_list (pe_lst (pa_cons (pe_call G_written (hr.mono (by decide)) (by rfl) T.written_g T.written_F.kp T.written_b .nil pass0 (pa_cons (pv 3) pa_nil)) (pa_cons (pv 5) (pa_cons pe_non (pa_cons pe_bl (pa_cons (pe_lst (pa_cons (pe_make T.Version_mk G_Version_init (hr.mono (by decide)) rfl T.Version_g T.Version_init_b .nil pass0 (pa_cons pe_str pa_nil)) pa_nil)) (pa_cons (pe_call G_row (hr.mono (by decide)) (by rfl) T.row_g T.row_F.kp T.row_b .nil pass0 (pa_cons (pv 3) pa_nil)) pa_nil)))))))) (pg_name (i := 6) S_law.nd rfl (Or.inl rfl)) (pss_one (ps_if (pt_cmpR (op_ownA (fun _ _ => rfl) T.Version_eq_at T.Version_eq_fn (G_Version_eq.raw T.Version_eq_b .nil) (hr.mono (by decide)) pass0) (ClX.pe_cmeth (pe_glob (v := .ref D.a_Version) rfl T.Version_g rfl) T.Version_rd T.Version_at_c (G_Version_at.raw T.Version_at_b .nil) (hr.mono (by decide)) pass0 (pa_cons (pv 5) pa_nil)) (pv 6) (nomark _)) (pss_one (ps_ret pe_bl)) pss_nil))))))))))
      (pss_one (ps_ret pe_bl))))), ?_⟩
    refine ⟨_, rfl, a, ns, rfl, hb, hl, fun d c H1 hd s1 D1 => ?_⟩
    refine ⟨rfl, fun H0 s0 => ⟨_, rfl, iteF ?_⟩⟩
    have D1 := D1.keep s0
    have hb1 := (hb.keep s1).keep s0
    clear s0 s1
    have nl : (ns.map V.int).length = ns.length := List.length_map _
    refine ⟨_, rfl, a, _, rfl, .inl (hb1.seq (by rw [nl]; exact szl (by omega))), _, _, rfl, rfl, _, _, rfl, _, rfl, ?_, ?_, ?_⟩
    · rw [nl]
      split <;> omega
    · rw [nl]
      split <;> omega
    have hcnt : (if (6 + ((ns.map V.int).length : Int)) < 24 then (6 + ((ns.map V.int).length : Int)) else 24).toNat ≤ 24 := by split <;> omega
    revert hcnt
    generalize (if (6 + ((ns.map V.int).length : Int)) < 24 then (6 + ((ns.map V.int).length : Int)) else 24).toNat = cnt
    intro hcnt
    refine for_range (lo := 0) (n := cnt) (fun i σ H' => ∃ o1 o2 o3 o4 o5 : Option V, σ = [some (.ref a), some (.ref d), o1, o2, o3, o4, o5] ∧ Dr H' d c (100 * i)) ⟨none, none, none, none, none, rfl, D1⟩ ?_ ?_
    · rintro i σ H2 hi ⟨o1, o2, o3, o4, o5, rfl, D2⟩
      refine ⟨_, rfl, d, c, _, rfl, D2, by omega, fun p1 fs st H3 P1 D3 b3 => ?_⟩
      refine ⟨_, rfl, _, rfl, d, c, _, p1, fs, st, rfl, D3, by omega, P1, fun p2 gs tt H4 P2 D4 b4 => ?_⟩
      have P1 := P1.but D3 b4
      refine ⟨_, rfl, _, rfl, p1, p2, fs, gs, st, tt, rfl, P1, P2, fun H5 s5 => ⟨_, rfl, iteF ?_⟩⟩
      refine ⟨_, rfl, _, rfl, p2, p1, gs, fs, tt, st, rfl, P2.keep s5, P1.keep s5, fun H6 s6 => ⟨_, rfl, iteF ?_⟩⟩
      refine ⟨_, rfl, _, rfl, p1, p1, fs, fs, st, st, rfl, (P1.keep s5).keep s6, (P1.keep s5).keep s6, fun H7 s7 => ⟨_, rfl, iteF ?_⟩⟩
      have t1 := (s5.trans s6).trans s7
      clear s5 s6 s7 b3 b4 D2 D3
      -- the rank
      refine ⟨_, rfl, p1, fs, st, rfl, P1.keep t1, fun H8 s8 => ⟨_, _, rfl, ?_⟩⟩
      have hfl := P1.fig.last
      obtain ⟨r, er, hr0⟩ : ∃ r : Nat, (if (3000999999999998 : Int) < ((rk fs st : Nat) : Int) then (3000999999999998 : Int) else ((rk fs st : Nat) : Int)) = (r : Int) ∧ r < LAST := by
        by_cases h : (3000999999999998 : Int) < ((rk fs st : Nat) : Int)
        · exact ⟨3000999999999998, by rw [if_pos h]; rfl, by decide⟩
        · exact ⟨rk fs st, by rw [if_neg h], by unfold LAST at *; omega⟩
      rw [er]
      have t2 := t1.trans s8
      have hr1 : r ≤ LAST := by omega
      refine ⟨_, rfl, r, rfl, hr0, fun H9 s9 => ⟨_, rfl, iteF ⟨_, rfl, _, _, rfl, rfl, _, _, rfl, r - 1, ?_, by omega, fun H10 s10 => ⟨_, rfl, iteF ?_⟩⟩⟩⟩
      · show [V.int (if (r : Int) - 1 > 0 then (r : Int) - 1 else 0)] = [.int ((r - 1 : Nat) : Int)]
        congr 2
        split <;> omega
      have t3 := (t2.trans s9).trans s10
      clear t1 t2 s8 s9 s10
      -- the odd ones
      refine ⟨_, rfl, p1, fs, st, rfl, P1.keep t3, fun H11 s11 => ⟨_, rfl, fun x dx hx hdx _ => ⟨x, dx, [49], [1], 3000, (by rw [txt_one]; rfl), upd_same, by decide, pT_one, by decide, by decide, fun H12 s12 => ⟨rfl, by show 1 ≤ sizeLine; decide, fun l hl1 => ?_⟩⟩⟩⟩
      have t4 := (t3.trans s11).trans (make_same (fs := [("_rank", .int (rk [1] 3000 : Nat))]) hx hdx s12)
      have t5 := t4.trans (same_new (o := .lst [.ref x]) hl1)
      have hl2 : (upd (upd H12 x (.ins D.a_Version dx [("_rank", .int (rk [1] 3000 : Nat))])) l (.lst [.ref x])) l = some (.lst [.ref x]) := upd_same
      revert t5 hl2
      generalize upd (upd H12 x (.ins D.a_Version dx [("_rank", .int (rk [1] 3000 : Nat))])) l (.lst [.ref x]) = H13
      intro t5 hl2
      refine ⟨_, rfl, p1, fs, st, rfl, P1.keep t5, fun t H14 s14 ht => ⟨by show 6 ≤ sizeLine; decide, fun L hL => ?_⟩⟩
      have t6 := t5.trans s14
      have t7 := t6.trans (same_new (o := .lst [.str (S (wrt fs st)), .int (r : Int), .non, .bl true, .ref l, .ref t]) hL)
      have hl3 := (same_new (o := .lst [.str (S (wrt fs st)), .int (r : Int), .non, .bl true, .ref l, .ref t]) hL) _ _ (s14 _ _ hl2)
      have ht3 := (same_new (o := .lst [.str (S (wrt fs st)), .int (r : Int), .non, .bl true, .ref l, .ref t]) hL) _ _ ht
      have hL3 : (upd H14 L (.lst [.str (S (wrt fs st)), .int (r : Int), .non, .bl true, .ref l, .ref t])) L = some (.lst [.str (S (wrt fs st)), .int (r : Int), .non, .bl true, .ref l, .ref t]) := upd_same
      clear t3 t4 t5 t6 s11 s12 hx hdx hl1 hl2 s14 ht
      revert t7 hl3 ht3 hL3
      generalize upd H14 L (.lst [.str (S (wrt fs st)), .int (r : Int), .non, .bl true, .ref l, .ref t]) = H15
      intro t7 hl3 ht3 hL3
      have D5 := D4.keep t7
      refine ⟨L, rfl, ⟨_, SqL.of hL3⟩, for_list (K := K) (a := L) (xs := [.str (S (wrt fs st)), .int (r : Int), .non, .bl true, .ref l, .ref t]) (fun j σ H' => ∃ o' : Option V, σ = [some (.ref a), some (.ref d), some (.int (0 + (i : Int))), some (.ref p1), some (.ref p2), some (.int (r : Int)), o'] ∧ Same H15 H')
        ⟨o5, rfl, Same.refl _⟩ (fun j σ H' _ ⟨_, _, h⟩ => SqL.of (h _ _ hL3)) ?_ ?_⟩
      · rintro j y σ H16 hj ⟨o', rfl, s16⟩
        refine ⟨rfl, _, rfl, r, rfl, hr1, fun z H17 s17 _ vz => ?_⟩
        obtain ⟨dz, vz⟩ := vz
        have s18 := s16.trans s17
        obtain ⟨ty, hT, hty⟩ : ∃ ty : String, (PySem.fastFind? ty).isSome = true ∧ TyX K H17 y (.type ty) := by
          have hm : y ∈ [V.str (S (wrt fs st)), .int (r : Int), .non, .bl true, .ref l, .ref t] := List.mem_of_getElem? hj
          simp only [List.mem_cons, List.not_mem_nil, or_false] at hm
          rcases hm with rfl | rfl | rfl | rfl | rfl | rfl
          · exact ⟨"str", by decide +kernel, .base (.str _)⟩
          · exact ⟨"int", by decide +kernel, .base (.int _)⟩
          · exact ⟨"NoneType", by decide +kernel, .base .non⟩
          · exact ⟨"bool", by decide +kernel, .base (.bl _)⟩
          · exact ⟨"list", by decide +kernel, .base (.lst (s18 _ _ hl3))⟩
          · exact ⟨"tuple", by decide +kernel, .base (.tup (s18 _ _ ht3))⟩
        obtain ⟨hk1, hk2⟩ := kit_not T.Version_cl T.Version_rd hT
        refine ⟨_, rfl, z, dz, _, _, rfl, vz, hty, hk2, z, r, y, rfl, ⟨dz, vz⟩, .inr ⟨_, hty, hk1, _, rfl, iteF ?_⟩⟩
        exact ⟨_, rfl, s18⟩
      · rintro σ H16 ⟨o', rfl, s16⟩
        exact ⟨_, _, _, _, _, rfl, (D5.keep s16).mono (by omega)⟩
    · rintro σ H2 _
      exact q H2
end

theorem all_mk {l : PySem.W.OpenLaw} {w : World} {K : PySem.W.Frag} {h : Heap} {mg : Str → Option Value} {fa : Addr} (X : K.In h) (G : h.Ns mainGlobals mg) (hfa : mg "law" = some (.ref fa))
    {f_is_whole : Addr} {od_is_whole an_is_whole : Option Addr} {sl_is_whole : Array (Option Value)} {oc_is_whole kV_is_whole dc_is_whole pm_is_whole cd_is_whole ct_is_whole : Value}
    (n_is_whole : PySem.W.nsIn K mainGlobals "is_whole" = some (some (.ref f_is_whole)))
    (l_is_whole : K.lookup f_is_whole = some ⟨oc_is_whole, od_is_whole, .func (PySem.W.fnOf "is_whole" "is_whole" (defArgs s_is_whole) (defBody s_is_whole) (defScope s_is_whole) .none kV_is_whole dc_is_whole pm_is_whole an_is_whole cd_is_whole ct_is_whole), sl_is_whole⟩)
    (c_is_whole : PySem.W.codeIn K cd_is_whole "is_whole" = true)
    (k_is_whole : PySem.W.keepIn K (.ref f_is_whole) = true)
    {f_is_count : Addr} {od_is_count an_is_count : Option Addr} {sl_is_count : Array (Option Value)} {oc_is_count kV_is_count dc_is_count pm_is_count cd_is_count ct_is_count : Value}
    (n_is_count : PySem.W.nsIn K mainGlobals "is_count" = some (some (.ref f_is_count)))
    (l_is_count : K.lookup f_is_count = some ⟨oc_is_count, od_is_count, .func (PySem.W.fnOf "is_count" "is_count" (defArgs s_is_count) (defBody s_is_count) (defScope s_is_count) .none kV_is_count dc_is_count pm_is_count an_is_count cd_is_count ct_is_count), sl_is_count⟩)
    (c_is_count : PySem.W.codeIn K cd_is_count "is_count" = true)
    (k_is_count : PySem.W.keepIn K (.ref f_is_count) = true)
    {f_is_whole_to : Addr} {od_is_whole_to an_is_whole_to : Option Addr} {sl_is_whole_to : Array (Option Value)} {oc_is_whole_to kV_is_whole_to dc_is_whole_to pm_is_whole_to cd_is_whole_to ct_is_whole_to : Value}
    (n_is_whole_to : PySem.W.nsIn K mainGlobals "is_whole_to" = some (some (.ref f_is_whole_to)))
    (l_is_whole_to : K.lookup f_is_whole_to = some ⟨oc_is_whole_to, od_is_whole_to, .func (PySem.W.fnOf "is_whole_to" "is_whole_to" (defArgs s_is_whole_to) (defBody s_is_whole_to) (defScope s_is_whole_to) .none kV_is_whole_to dc_is_whole_to pm_is_whole_to an_is_whole_to cd_is_whole_to ct_is_whole_to), sl_is_whole_to⟩)
    (c_is_whole_to : PySem.W.codeIn K cd_is_whole_to "is_whole_to" = true)
    (k_is_whole_to : PySem.W.keepIn K (.ref f_is_whole_to) = true)
    {f_consists_of : Addr} {od_consists_of an_consists_of : Option Addr} {sl_consists_of : Array (Option Value)} {oc_consists_of kV_consists_of dc_consists_of pm_consists_of cd_consists_of ct_consists_of : Value}
    (n_consists_of : PySem.W.nsIn K mainGlobals "consists_of" = some (some (.ref f_consists_of)))
    (l_consists_of : K.lookup f_consists_of = some ⟨oc_consists_of, od_consists_of, .func (PySem.W.fnOf "consists_of" "consists_of" (defArgs s_consists_of) (defBody s_consists_of) (defScope s_consists_of) .none kV_consists_of dc_consists_of pm_consists_of an_consists_of cd_consists_of ct_consists_of), sl_consists_of⟩)
    (c_consists_of : PySem.W.codeIn K cd_consists_of "consists_of" = true)
    (k_consists_of : PySem.W.keepIn K (.ref f_consists_of) = true)
    {f_is_string_of : Addr} {od_is_string_of an_is_string_of : Option Addr} {sl_is_string_of : Array (Option Value)} {oc_is_string_of kV_is_string_of dc_is_string_of pm_is_string_of cd_is_string_of ct_is_string_of : Value}
    (n_is_string_of : PySem.W.nsIn K mainGlobals "is_string_of" = some (some (.ref f_is_string_of)))
    (l_is_string_of : K.lookup f_is_string_of = some ⟨oc_is_string_of, od_is_string_of, .func (PySem.W.fnOf "is_string_of" "is_string_of" (defArgs s_is_string_of) (defBody s_is_string_of) (defScope s_is_string_of) .none kV_is_string_of dc_is_string_of pm_is_string_of an_is_string_of cd_is_string_of ct_is_string_of), sl_is_string_of⟩)
    (c_is_string_of : PySem.W.codeIn K cd_is_string_of "is_string_of" = true)
    (k_is_string_of : PySem.W.keepIn K (.ref f_is_string_of) = true)
    {f_number_in : Addr} {od_number_in an_number_in : Option Addr} {sl_number_in : Array (Option Value)} {oc_number_in kV_number_in dc_number_in pm_number_in cd_number_in ct_number_in : Value}
    (n_number_in : PySem.W.nsIn K mainGlobals "number_in" = some (some (.ref f_number_in)))
    (l_number_in : K.lookup f_number_in = some ⟨oc_number_in, od_number_in, .func (PySem.W.fnOf "number_in" "number_in" (defArgs s_number_in) (defBody s_number_in) (defScope s_number_in) .none kV_number_in dc_number_in pm_number_in an_number_in cd_number_in ct_number_in), sl_number_in⟩)
    (c_number_in : PySem.W.codeIn K cd_number_in "number_in" = true)
    (k_number_in : PySem.W.keepIn K (.ref f_number_in) = true)
    {f_stage_of_text : Addr} {od_stage_of_text an_stage_of_text : Option Addr} {sl_stage_of_text : Array (Option Value)} {oc_stage_of_text kV_stage_of_text dc_stage_of_text pm_stage_of_text cd_stage_of_text ct_stage_of_text : Value}
    (n_stage_of_text : PySem.W.nsIn K mainGlobals "stage_of_text" = some (some (.ref f_stage_of_text)))
    (l_stage_of_text : K.lookup f_stage_of_text = some ⟨oc_stage_of_text, od_stage_of_text, .func (PySem.W.fnOf "stage_of_text" "stage_of_text" (defArgs s_stage_of_text) (defBody s_stage_of_text) (defScope s_stage_of_text) .none kV_stage_of_text dc_stage_of_text pm_stage_of_text an_stage_of_text cd_stage_of_text ct_stage_of_text), sl_stage_of_text⟩)
    (c_stage_of_text : PySem.W.codeIn K cd_stage_of_text "stage_of_text" = true)
    (k_stage_of_text : PySem.W.keepIn K (.ref f_stage_of_text) = true)
    {f_parts_of_text : Addr} {od_parts_of_text an_parts_of_text : Option Addr} {sl_parts_of_text : Array (Option Value)} {oc_parts_of_text kV_parts_of_text dc_parts_of_text pm_parts_of_text cd_parts_of_text ct_parts_of_text : Value}
    (n_parts_of_text : PySem.W.nsIn K mainGlobals "parts_of_text" = some (some (.ref f_parts_of_text)))
    (l_parts_of_text : K.lookup f_parts_of_text = some ⟨oc_parts_of_text, od_parts_of_text, .func (PySem.W.fnOf "parts_of_text" "parts_of_text" (defArgs s_parts_of_text) (defBody s_parts_of_text) (defScope s_parts_of_text) .none kV_parts_of_text dc_parts_of_text pm_parts_of_text an_parts_of_text cd_parts_of_text ct_parts_of_text), sl_parts_of_text⟩)
    (c_parts_of_text : PySem.W.codeIn K cd_parts_of_text "parts_of_text" = true)
    (k_parts_of_text : PySem.W.keepIn K (.ref f_parts_of_text) = true)
    {f_rank_of : Addr} {od_rank_of an_rank_of : Option Addr} {sl_rank_of : Array (Option Value)} {oc_rank_of kV_rank_of dc_rank_of pm_rank_of cd_rank_of ct_rank_of : Value}
    (n_rank_of : PySem.W.nsIn K mainGlobals "rank_of" = some (some (.ref f_rank_of)))
    (l_rank_of : K.lookup f_rank_of = some ⟨oc_rank_of, od_rank_of, .func (PySem.W.fnOf "rank_of" "rank_of" (defArgs s_rank_of) (defBody s_rank_of) (defScope s_rank_of) .none kV_rank_of dc_rank_of pm_rank_of an_rank_of cd_rank_of ct_rank_of), sl_rank_of⟩)
    (c_rank_of : PySem.W.codeIn K cd_rank_of "rank_of" = true)
    (k_rank_of : PySem.W.keepIn K (.ref f_rank_of) = true)
    {f_numbers_at : Addr} {od_numbers_at an_numbers_at : Option Addr} {sl_numbers_at : Array (Option Value)} {oc_numbers_at kV_numbers_at dc_numbers_at pm_numbers_at cd_numbers_at ct_numbers_at : Value}
    (n_numbers_at : PySem.W.nsIn K mainGlobals "numbers_at" = some (some (.ref f_numbers_at)))
    (l_numbers_at : K.lookup f_numbers_at = some ⟨oc_numbers_at, od_numbers_at, .func (PySem.W.fnOf "numbers_at" "numbers_at" (defArgs s_numbers_at) (defBody s_numbers_at) (defScope s_numbers_at) .none kV_numbers_at dc_numbers_at pm_numbers_at an_numbers_at cd_numbers_at ct_numbers_at), sl_numbers_at⟩)
    (c_numbers_at : PySem.W.codeIn K cd_numbers_at "numbers_at" = true)
    (k_numbers_at : PySem.W.keepIn K (.ref f_numbers_at) = true)
    {f_text_of_numbers : Addr} {od_text_of_numbers an_text_of_numbers : Option Addr} {sl_text_of_numbers : Array (Option Value)} {oc_text_of_numbers kV_text_of_numbers dc_text_of_numbers pm_text_of_numbers cd_text_of_numbers ct_text_of_numbers : Value}
    (n_text_of_numbers : PySem.W.nsIn K mainGlobals "text_of_numbers" = some (some (.ref f_text_of_numbers)))
    (l_text_of_numbers : K.lookup f_text_of_numbers = some ⟨oc_text_of_numbers, od_text_of_numbers, .func (PySem.W.fnOf "text_of_numbers" "text_of_numbers" (defArgs s_text_of_numbers) (defBody s_text_of_numbers) (defScope s_text_of_numbers) .none kV_text_of_numbers dc_text_of_numbers pm_text_of_numbers an_text_of_numbers cd_text_of_numbers ct_text_of_numbers), sl_text_of_numbers⟩)
    (c_text_of_numbers : PySem.W.codeIn K cd_text_of_numbers "text_of_numbers" = true)
    (k_text_of_numbers : PySem.W.keepIn K (.ref f_text_of_numbers) = true)
    {f_text_of_stage : Addr} {od_text_of_stage an_text_of_stage : Option Addr} {sl_text_of_stage : Array (Option Value)} {oc_text_of_stage kV_text_of_stage dc_text_of_stage pm_text_of_stage cd_text_of_stage ct_text_of_stage : Value}
    (n_text_of_stage : PySem.W.nsIn K mainGlobals "text_of_stage" = some (some (.ref f_text_of_stage)))
    (l_text_of_stage : K.lookup f_text_of_stage = some ⟨oc_text_of_stage, od_text_of_stage, .func (PySem.W.fnOf "text_of_stage" "text_of_stage" (defArgs s_text_of_stage) (defBody s_text_of_stage) (defScope s_text_of_stage) .none kV_text_of_stage dc_text_of_stage pm_text_of_stage an_text_of_stage cd_text_of_stage ct_text_of_stage), sl_text_of_stage⟩)
    (c_text_of_stage : PySem.W.codeIn K cd_text_of_stage "text_of_stage" = true)
    (k_text_of_stage : PySem.W.keepIn K (.ref f_text_of_stage) = true)
    {f_text_at : Addr} {od_text_at an_text_at : Option Addr} {sl_text_at : Array (Option Value)} {oc_text_at kV_text_at dc_text_at pm_text_at cd_text_at ct_text_at : Value}
    (n_text_at : PySem.W.nsIn K mainGlobals "text_at" = some (some (.ref f_text_at)))
    (l_text_at : K.lookup f_text_at = some ⟨oc_text_at, od_text_at, .func (PySem.W.fnOf "text_at" "text_at" (defArgs s_text_at) (defBody s_text_at) (defScope s_text_at) .none kV_text_at dc_text_at pm_text_at an_text_at cd_text_at ct_text_at), sl_text_at⟩)
    (c_text_at : PySem.W.codeIn K cd_text_at "text_at" = true)
    (k_text_at : PySem.W.keepIn K (.ref f_text_at) = true)
    {f_Version : Addr}
    {f_Version_init : Addr} {od_Version_init an_Version_init : Option Addr} {sl_Version_init : Array (Option Value)} {oc_Version_init kV_Version_init dc_Version_init pm_Version_init cd_Version_init ct_Version_init : Value}
    (n_Version : PySem.W.nsIn K mainGlobals "Version" = some (some (.ref f_Version)))
    (at_Version_init : PySem.W.findIn K (.ref f_Version) "__init__" = some (some (.ref f_Version_init)))
    (l_Version_init : K.lookup f_Version_init = some ⟨oc_Version_init, od_Version_init, .func (PySem.W.fnOf "__init__" "Version.__init__" (defArgs s_Version_init) (defBody s_Version_init) (defScope s_Version_init) .none kV_Version_init dc_Version_init pm_Version_init an_Version_init cd_Version_init ct_Version_init), sl_Version_init⟩)
    (c_Version_init : PySem.W.codeIn K cd_Version_init "Version.__init__" = true)
    (k_Version_init : PySem.W.keepIn K (.ref f_Version_init) = true)
    {f_Version_at : Addr} {od_Version_at an_Version_at : Option Addr} {sl_Version_at : Array (Option Value)} {oc_Version_at kV_Version_at dc_Version_at pm_Version_at cd_Version_at ct_Version_at : Value}
    {p_Version_at : Addr} {r_Version_at : List Value}
    (at_Version_at : PySem.W.findCls K (.ref f_Version) (.type "type") "at" = some (.get (.builtin "classmethod.__get__") (.ref p_Version_at) .none (.ref f_Version)))
    (rc_Version_at : PySem.W.recIn K p_Version_at "classmethod" = some (.ref f_Version_at :: r_Version_at))
    (l_Version_at : K.lookup f_Version_at = some ⟨oc_Version_at, od_Version_at, .func (PySem.W.fnOf "at" "Version.at" (defArgs s_Version_at) (defBody s_Version_at) (defScope s_Version_at) .none kV_Version_at dc_Version_at pm_Version_at an_Version_at cd_Version_at ct_Version_at), sl_Version_at⟩)
    (c_Version_at : PySem.W.codeIn K cd_Version_at "Version.at" = true)
    (k_Version_at : PySem.W.keepIn K (.ref f_Version_at) = true)
    {f_Version_rank : Addr} {od_Version_rank an_Version_rank : Option Addr} {sl_Version_rank : Array (Option Value)} {oc_Version_rank kV_Version_rank dc_Version_rank pm_Version_rank cd_Version_rank ct_Version_rank : Value}
    {p_Version_rank : Addr} {r_Version_rank : List Value}
    (at_Version_rank : PySem.W.findIn K (.ref f_Version) "rank" = some (some (.ref p_Version_rank)))
    (rc_Version_rank : PySem.W.recIn K p_Version_rank "property" = some (.ref f_Version_rank :: r_Version_rank))
    (l_Version_rank : K.lookup f_Version_rank = some ⟨oc_Version_rank, od_Version_rank, .func (PySem.W.fnOf "rank" "Version.rank" (defArgs s_Version_rank) (defBody s_Version_rank) (defScope s_Version_rank) .none kV_Version_rank dc_Version_rank pm_Version_rank an_Version_rank cd_Version_rank ct_Version_rank), sl_Version_rank⟩)
    (c_Version_rank : PySem.W.codeIn K cd_Version_rank "Version.rank" = true)
    (k_Version_rank : PySem.W.keepIn K (.ref f_Version_rank) = true)
    {f_Version_eq : Addr} {od_Version_eq an_Version_eq : Option Addr} {sl_Version_eq : Array (Option Value)} {oc_Version_eq kV_Version_eq dc_Version_eq pm_Version_eq cd_Version_eq ct_Version_eq : Value}
    (at_Version_eq : PySem.W.findIn K (.ref f_Version) "__eq__" = some (some (.ref f_Version_eq)))
    (l_Version_eq : K.lookup f_Version_eq = some ⟨oc_Version_eq, od_Version_eq, .func (PySem.W.fnOf "__eq__" "Version.__eq__" (defArgs s_Version_eq) (defBody s_Version_eq) (defScope s_Version_eq) .none kV_Version_eq dc_Version_eq pm_Version_eq an_Version_eq cd_Version_eq ct_Version_eq), sl_Version_eq⟩)
    (c_Version_eq : PySem.W.codeIn K cd_Version_eq "Version.__eq__" = true)
    (k_Version_eq : PySem.W.keepIn K (.ref f_Version_eq) = true)
    {f_Version_lt : Addr} {od_Version_lt an_Version_lt : Option Addr} {sl_Version_lt : Array (Option Value)} {oc_Version_lt kV_Version_lt dc_Version_lt pm_Version_lt cd_Version_lt ct_Version_lt : Value}
    (at_Version_lt : PySem.W.findIn K (.ref f_Version) "__lt__" = some (some (.ref f_Version_lt)))
    (l_Version_lt : K.lookup f_Version_lt = some ⟨oc_Version_lt, od_Version_lt, .func (PySem.W.fnOf "__lt__" "Version.__lt__" (defArgs s_Version_lt) (defBody s_Version_lt) (defScope s_Version_lt) .none kV_Version_lt dc_Version_lt pm_Version_lt an_Version_lt cd_Version_lt ct_Version_lt), sl_Version_lt⟩)
    (c_Version_lt : PySem.W.codeIn K cd_Version_lt "Version.__lt__" = true)
    (k_Version_lt : PySem.W.keepIn K (.ref f_Version_lt) = true)
    {f_Version_le : Addr} {od_Version_le an_Version_le : Option Addr} {sl_Version_le : Array (Option Value)} {oc_Version_le kV_Version_le dc_Version_le pm_Version_le cd_Version_le ct_Version_le : Value}
    (at_Version_le : PySem.W.findIn K (.ref f_Version) "__le__" = some (some (.ref f_Version_le)))
    (l_Version_le : K.lookup f_Version_le = some ⟨oc_Version_le, od_Version_le, .func (PySem.W.fnOf "__le__" "Version.__le__" (defArgs s_Version_le) (defBody s_Version_le) (defScope s_Version_le) .none kV_Version_le dc_Version_le pm_Version_le an_Version_le cd_Version_le ct_Version_le), sl_Version_le⟩)
    (c_Version_le : PySem.W.codeIn K cd_Version_le "Version.__le__" = true)
    (k_Version_le : PySem.W.keepIn K (.ref f_Version_le) = true)
    {f_Version_gt : Addr} {od_Version_gt an_Version_gt : Option Addr} {sl_Version_gt : Array (Option Value)} {oc_Version_gt kV_Version_gt dc_Version_gt pm_Version_gt cd_Version_gt ct_Version_gt : Value}
    (at_Version_gt : PySem.W.findIn K (.ref f_Version) "__gt__" = some (some (.ref f_Version_gt)))
    (l_Version_gt : K.lookup f_Version_gt = some ⟨oc_Version_gt, od_Version_gt, .func (PySem.W.fnOf "__gt__" "Version.__gt__" (defArgs s_Version_gt) (defBody s_Version_gt) (defScope s_Version_gt) .none kV_Version_gt dc_Version_gt pm_Version_gt an_Version_gt cd_Version_gt ct_Version_gt), sl_Version_gt⟩)
    (c_Version_gt : PySem.W.codeIn K cd_Version_gt "Version.__gt__" = true)
    (k_Version_gt : PySem.W.keepIn K (.ref f_Version_gt) = true)
    {f_Version_ge : Addr} {od_Version_ge an_Version_ge : Option Addr} {sl_Version_ge : Array (Option Value)} {oc_Version_ge kV_Version_ge dc_Version_ge pm_Version_ge cd_Version_ge ct_Version_ge : Value}
    (at_Version_ge : PySem.W.findIn K (.ref f_Version) "__ge__" = some (some (.ref f_Version_ge)))
    (l_Version_ge : K.lookup f_Version_ge = some ⟨oc_Version_ge, od_Version_ge, .func (PySem.W.fnOf "__ge__" "Version.__ge__" (defArgs s_Version_ge) (defBody s_Version_ge) (defScope s_Version_ge) .none kV_Version_ge dc_Version_ge pm_Version_ge an_Version_ge cd_Version_ge ct_Version_ge), sl_Version_ge⟩)
    (c_Version_ge : PySem.W.codeIn K cd_Version_ge "Version.__ge__" = true)
    (k_Version_ge : PySem.W.keepIn K (.ref f_Version_ge) = true)
    {f_Version_str : Addr} {od_Version_str an_Version_str : Option Addr} {sl_Version_str : Array (Option Value)} {oc_Version_str kV_Version_str dc_Version_str pm_Version_str cd_Version_str ct_Version_str : Value}
    (at_Version_str : PySem.W.findIn K (.ref f_Version) "__str__" = some (some (.ref f_Version_str)))
    (l_Version_str : K.lookup f_Version_str = some ⟨oc_Version_str, od_Version_str, .func (PySem.W.fnOf "__str__" "Version.__str__" (defArgs s_Version_str) (defBody s_Version_str) (defScope s_Version_str) .none kV_Version_str dc_Version_str pm_Version_str an_Version_str cd_Version_str ct_Version_str), sl_Version_str⟩)
    (c_Version_str : PySem.W.codeIn K cd_Version_str "Version.__str__" = true)
    (k_Version_str : PySem.W.keepIn K (.ref f_Version_str) = true)
    {f_begin : Addr} {od_begin an_begin : Option Addr} {sl_begin : Array (Option Value)} {oc_begin kV_begin dc_begin pm_begin cd_begin ct_begin : Value}
    (n_begin : PySem.W.nsIn K mainGlobals "_law_begin" = some (some (.ref f_begin)))
    (l_begin : K.lookup f_begin = some ⟨oc_begin, od_begin, .func (PySem.W.fnOf "_law_begin" "_law_begin" (defArgs s_begin) (defBody s_begin) (defScope s_begin) .none kV_begin dc_begin pm_begin an_begin cd_begin ct_begin), sl_begin⟩)
    (c_begin : PySem.W.codeIn K cd_begin "_law_begin" = true)
    (k_begin : PySem.W.keepIn K (.ref f_begin) = true)
    {f_mixed : Addr} {od_mixed an_mixed : Option Addr} {sl_mixed : Array (Option Value)} {oc_mixed kV_mixed dc_mixed pm_mixed cd_mixed ct_mixed : Value}
    (n_mixed : PySem.W.nsIn K mainGlobals "_law_mixed" = some (some (.ref f_mixed)))
    (l_mixed : K.lookup f_mixed = some ⟨oc_mixed, od_mixed, .func (PySem.W.fnOf "_law_mixed" "_law_mixed" (defArgs s_mixed) (defBody s_mixed) (defScope s_mixed) .none kV_mixed dc_mixed pm_mixed an_mixed cd_mixed ct_mixed), sl_mixed⟩)
    (c_mixed : PySem.W.codeIn K cd_mixed "_law_mixed" = true)
    (k_mixed : PySem.W.keepIn K (.ref f_mixed) = true)
    {f_next : Addr} {od_next an_next : Option Addr} {sl_next : Array (Option Value)} {oc_next kV_next dc_next pm_next cd_next ct_next : Value}
    (n_next : PySem.W.nsIn K mainGlobals "_law_next" = some (some (.ref f_next)))
    (l_next : K.lookup f_next = some ⟨oc_next, od_next, .func (PySem.W.fnOf "_law_next" "_law_next" (defArgs s_next) (defBody s_next) (defScope s_next) .none kV_next dc_next pm_next an_next cd_next ct_next), sl_next⟩)
    (c_next : PySem.W.codeIn K cd_next "_law_next" = true)
    (k_next : PySem.W.keepIn K (.ref f_next) = true)
    {f_number : Addr} {od_number an_number : Option Addr} {sl_number : Array (Option Value)} {oc_number kV_number dc_number pm_number cd_number ct_number : Value}
    (n_number : PySem.W.nsIn K mainGlobals "_law_number" = some (some (.ref f_number)))
    (l_number : K.lookup f_number = some ⟨oc_number, od_number, .func (PySem.W.fnOf "_law_number" "_law_number" (defArgs s_number) (defBody s_number) (defScope s_number) .none kV_number dc_number pm_number an_number cd_number ct_number), sl_number⟩)
    (c_number : PySem.W.codeIn K cd_number "_law_number" = true)
    (k_number : PySem.W.keepIn K (.ref f_number) = true)
    {f_parts : Addr} {od_parts an_parts : Option Addr} {sl_parts : Array (Option Value)} {oc_parts kV_parts dc_parts pm_parts cd_parts ct_parts : Value}
    (n_parts : PySem.W.nsIn K mainGlobals "_law_parts" = some (some (.ref f_parts)))
    (l_parts : K.lookup f_parts = some ⟨oc_parts, od_parts, .func (PySem.W.fnOf "_law_parts" "_law_parts" (defArgs s_parts) (defBody s_parts) (defScope s_parts) .none kV_parts dc_parts pm_parts an_parts cd_parts ct_parts), sl_parts⟩)
    (c_parts : PySem.W.codeIn K cd_parts "_law_parts" = true)
    (k_parts : PySem.W.keepIn K (.ref f_parts) = true)
    {f_written : Addr} {od_written an_written : Option Addr} {sl_written : Array (Option Value)} {oc_written kV_written dc_written pm_written cd_written ct_written : Value}
    (n_written : PySem.W.nsIn K mainGlobals "_law_written" = some (some (.ref f_written)))
    (l_written : K.lookup f_written = some ⟨oc_written, od_written, .func (PySem.W.fnOf "_law_written" "_law_written" (defArgs s_written) (defBody s_written) (defScope s_written) .none kV_written dc_written pm_written an_written cd_written ct_written), sl_written⟩)
    (c_written : PySem.W.codeIn K cd_written "_law_written" = true)
    (k_written : PySem.W.keepIn K (.ref f_written) = true)
    {f_row : Addr} {od_row an_row : Option Addr} {sl_row : Array (Option Value)} {oc_row kV_row dc_row pm_row cd_row ct_row : Value}
    (n_row : PySem.W.nsIn K mainGlobals "_law_row" = some (some (.ref f_row)))
    (l_row : K.lookup f_row = some ⟨oc_row, od_row, .func (PySem.W.fnOf "_law_row" "_law_row" (defArgs s_row) (defBody s_row) (defScope s_row) .none kV_row dc_row pm_row an_row cd_row ct_row), sl_row⟩)
    (c_row : PySem.W.codeIn K cd_row "_law_row" = true)
    (k_row : PySem.W.keepIn K (.ref f_row) = true)
    {f_rank : Addr} {od_rank an_rank : Option Addr} {sl_rank : Array (Option Value)} {oc_rank kV_rank dc_rank pm_rank cd_rank ct_rank : Value}
    (n_rank : PySem.W.nsIn K mainGlobals "_law_rank" = some (some (.ref f_rank)))
    (l_rank : K.lookup f_rank = some ⟨oc_rank, od_rank, .func (PySem.W.fnOf "_law_rank" "_law_rank" (defArgs s_rank) (defBody s_rank) (defScope s_rank) .none kV_rank dc_rank pm_rank an_rank cd_rank ct_rank), sl_rank⟩)
    (c_rank : PySem.W.codeIn K cd_rank "_law_rank" = true)
    (k_rank : PySem.W.keepIn K (.ref f_rank) = true)
    {f_parts_at : Addr} {od_parts_at an_parts_at : Option Addr} {sl_parts_at : Array (Option Value)} {oc_parts_at kV_parts_at dc_parts_at pm_parts_at cd_parts_at ct_parts_at : Value}
    (n_parts_at : PySem.W.nsIn K mainGlobals "_law_parts_at" = some (some (.ref f_parts_at)))
    (l_parts_at : K.lookup f_parts_at = some ⟨oc_parts_at, od_parts_at, .func (PySem.W.fnOf "_law_parts_at" "_law_parts_at" (defArgs s_parts_at) (defBody s_parts_at) (defScope s_parts_at) .none kV_parts_at dc_parts_at pm_parts_at an_parts_at cd_parts_at ct_parts_at), sl_parts_at⟩)
    (c_parts_at : PySem.W.codeIn K cd_parts_at "_law_parts_at" = true)
    (k_parts_at : PySem.W.keepIn K (.ref f_parts_at) = true)
    {f_short : Addr} {od_short an_short : Option Addr} {sl_short : Array (Option Value)} {oc_short kV_short dc_short pm_short cd_short ct_short : Value}
    (n_short : PySem.W.nsIn K mainGlobals "_law_short" = some (some (.ref f_short)))
    (l_short : K.lookup f_short = some ⟨oc_short, od_short, .func (PySem.W.fnOf "_law_short" "_law_short" (defArgs s_short) (defBody s_short) (defScope s_short) .none kV_short dc_short pm_short an_short cd_short ct_short), sl_short⟩)
    (c_short : PySem.W.codeIn K cd_short "_law_short" = true)
    (k_short : PySem.W.keepIn K (.ref f_short) = true)
    {f_near : Addr} {od_near an_near : Option Addr} {sl_near : Array (Option Value)} {oc_near kV_near dc_near pm_near cd_near ct_near : Value}
    (n_near : PySem.W.nsIn K mainGlobals "_law_near" = some (some (.ref f_near)))
    (l_near : K.lookup f_near = some ⟨oc_near, od_near, .func (PySem.W.fnOf "_law_near" "_law_near" (defArgs s_near) (defBody s_near) (defScope s_near) .none kV_near dc_near pm_near an_near cd_near ct_near), sl_near⟩)
    (c_near : PySem.W.codeIn K cd_near "_law_near" = true)
    (k_near : PySem.W.keepIn K (.ref f_near) = true)
    {f_pair_right : Addr} {od_pair_right an_pair_right : Option Addr} {sl_pair_right : Array (Option Value)} {oc_pair_right kV_pair_right dc_pair_right pm_pair_right cd_pair_right ct_pair_right : Value}
    (n_pair_right : PySem.W.nsIn K mainGlobals "_law_pair_right" = some (some (.ref f_pair_right)))
    (l_pair_right : K.lookup f_pair_right = some ⟨oc_pair_right, od_pair_right, .func (PySem.W.fnOf "_law_pair_right" "_law_pair_right" (defArgs s_pair_right) (defBody s_pair_right) (defScope s_pair_right) .none kV_pair_right dc_pair_right pm_pair_right an_pair_right cd_pair_right ct_pair_right), sl_pair_right⟩)
    (c_pair_right : PySem.W.codeIn K cd_pair_right "_law_pair_right" = true)
    (k_pair_right : PySem.W.keepIn K (.ref f_pair_right) = true)
    {f_next_right : Addr} {od_next_right an_next_right : Option Addr} {sl_next_right : Array (Option Value)} {oc_next_right kV_next_right dc_next_right pm_next_right cd_next_right ct_next_right : Value}
    (n_next_right : PySem.W.nsIn K mainGlobals "_law_next_right" = some (some (.ref f_next_right)))
    (l_next_right : K.lookup f_next_right = some ⟨oc_next_right, od_next_right, .func (PySem.W.fnOf "_law_next_right" "_law_next_right" (defArgs s_next_right) (defBody s_next_right) (defScope s_next_right) .none kV_next_right dc_next_right pm_next_right an_next_right cd_next_right ct_next_right), sl_next_right⟩)
    (c_next_right : PySem.W.codeIn K cd_next_right "_law_next_right" = true)
    (k_next_right : PySem.W.keepIn K (.ref f_next_right) = true)
    {f_ends_right : Addr} {od_ends_right an_ends_right : Option Addr} {sl_ends_right : Array (Option Value)} {oc_ends_right kV_ends_right dc_ends_right pm_ends_right cd_ends_right ct_ends_right : Value}
    (n_ends_right : PySem.W.nsIn K mainGlobals "_law_ends_right" = some (some (.ref f_ends_right)))
    (l_ends_right : K.lookup f_ends_right = some ⟨oc_ends_right, od_ends_right, .func (PySem.W.fnOf "_law_ends_right" "_law_ends_right" (defArgs s_ends_right) (defBody s_ends_right) (defScope s_ends_right) .none kV_ends_right dc_ends_right pm_ends_right an_ends_right cd_ends_right ct_ends_right), sl_ends_right⟩)
    (c_ends_right : PySem.W.codeIn K cd_ends_right "_law_ends_right" = true)
    (k_ends_right : PySem.W.keepIn K (.ref f_ends_right) = true)
    {f_law : Addr} {od_law an_law : Option Addr} {sl_law : Array (Option Value)} {oc_law kV_law dc_law pm_law cd_law ct_law : Value}
    (n_law : PySem.W.nsIn K mainGlobals "law" = some (some (.ref f_law)))
    (l_law : K.lookup f_law = some ⟨oc_law, od_law, .func (PySem.W.fnOf "law" "law" (defArgs s_law) (defBody s_law) (defScope s_law) .none kV_law dc_law pm_law an_law cd_law ct_law), sl_law⟩)
    (c_law : PySem.W.codeIn K cd_law "law" = true)
    (k_law : PySem.W.keepIn K (.ref f_law) = true)
    (pg_Version : PySem.W.plainGet K f_Version Str.empty = true)
    (hd_Version : PySem.W.hasDictIn K f_Version = true)
    (po_Version : PySem.W.plainOver K f_Version = true)
    (sa_Version : PySem.W.findIn K (.ref f_Version) "__setattr__" = some (some (.builtin "object.__setattr__")))
    (mk_Version : PySem.W.makesIn K f_Version = true)
    (kc_Version : PySem.W.keepIn K (.ref f_Version) = true)
    (rd_Version : PySem.W.readsIn K f_Version (.type "type") = true)
    (ga_Version : PySem.W.specialIn K (.ref f_Version) "__getattribute__" = some (some (.builtin "type.__getattribute__")))
    (ca_Version : PySem.W.findIn K (.ref f_Version) "__class__" = some (some (.builtin "object.__class__")))
    (cn_Version : PySem.W.specialIn K (.builtin "object.__class__") "__get__" = some (some (.builtin "getset_descriptor.__get__")))
    (ct_Version : PySem.W.takesIn K (.builtin "object.__class__") = some true)
    (cm_Version : PySem.W.mroIn K f_Version (.type "object") = some true)
    (nf_Version : PySem.W.notFirst K f_Version (.ref f_Version) = true)
    (fn_Version_init : PySem.W.isFn K (.ref f_Version_init) = true)
    (na_Version_rank : PySem.W.findIn K (.ref f_Version) "_rank" = some none)
    (fi_Version_at : PySem.W.fnIn K f_Version_at = true)
    (ge_Version_rank : PySem.W.specialIn K (.ref p_Version_rank) "__get__" = some (some (.builtin "property.__get__")))
    (tk_Version_rank : PySem.W.takesIn K (.ref p_Version_rank) = some true)
    (fn_Version_eq : PySem.W.isFn K (.ref f_Version_eq) = true)
    (fn_Version_lt : PySem.W.isFn K (.ref f_Version_lt) = true)
    (fn_Version_le : PySem.W.isFn K (.ref f_Version_le) = true)
    (fn_Version_gt : PySem.W.isFn K (.ref f_Version_gt) = true)
    (fn_Version_ge : PySem.W.isFn K (.ref f_Version_ge) = true)
    (fn_Version_str : PySem.W.isFn K (.ref f_Version_str) = true)
    {t_Version_LAST : Tok}
    (cv_Version_LAST : PySem.W.findCls K (.ref f_Version) (.type "type") "LAST" = some (.val (.int 3000999999999999 t_Version_LAST)))
    {t_DIGITS : Tok}
    (g_DIGITS : PySem.W.nsIn K mainGlobals "DIGITS" = some (some (.str "0123456789" t_DIGITS)))
    {k_STAGES : Addr} {od_STAGES : Option Addr} {sl_STAGES : Array (Option Value)} {nn_STAGES : Nat} {t_STAGES0 : Tok} {t_STAGES1 : Tok} {t_STAGES2 : Tok}
    (g_STAGES : PySem.W.nsIn K mainGlobals "STAGES" = some (some (.ref k_STAGES)))
    (w_STAGES : K.lookup k_STAGES = some ⟨.type "tuple", od_STAGES, .seq #[.str "a" t_STAGES0, .str "b" t_STAGES1, .str "rc" t_STAGES2] nn_STAGES, sl_STAGES⟩)
    {t_FINAL : Tok}
    (g_FINAL : PySem.W.nsIn K mainGlobals "FINAL" = some (some (.int 3000 t_FINAL)))
    {t_WIDTH : Tok}
    (g_WIDTH : PySem.W.nsIn K mainGlobals "WIDTH" = some (some (.int 3001 t_WIDTH)))
    {t_GREATEST : Tok}
    (g_GREATEST : PySem.W.nsIn K mainGlobals "GREATEST" = some (some (.int 999 t_GREATEST)))
    (z_all : PySem.W.nsIn K mainGlobals "all" = some none)
    (z_bool : PySem.W.nsIn K mainGlobals "bool" = some none)
    (z_enumerate : PySem.W.nsIn K mainGlobals "enumerate" = some none)
    (z_int : PySem.W.nsIn K mainGlobals "int" = some none)
    (z_isinstance : PySem.W.nsIn K mainGlobals "isinstance" = some none)
    (z_len : PySem.W.nsIn K mainGlobals "len" = some none)
    (z_list : PySem.W.nsIn K mainGlobals "list" = some none)
    (z_max : PySem.W.nsIn K mainGlobals "max" = some none)
    (z_min : PySem.W.nsIn K mainGlobals "min" = some none)
    (z_range : PySem.W.nsIn K mainGlobals "range" = some none)
    (z_repr : PySem.W.nsIn K mainGlobals "repr" = some none)
    (z_str : PySem.W.nsIn K mainGlobals "str" = some none)
    (z_tuple : PySem.W.nsIn K mainGlobals "tuple" = some none) :
    ∃ fd : FuncData, (∀ (s : Shared) (v : Value), BindsTo s fd ⟨[v], []⟩ [("_law_script", v)]) ∧ ∀ base : Heap, K.In base → base.Ns mainGlobals mg → FnG l.prog w K mg base 12 fa fd ["_law_script"] (spLaw K) := by
  have e0 := hfa.symm.trans (PySem.W.mg_of X G n_law)
  have e : f_law = fa := by
    cases e0
    rfl
  subst e
  have F_is_whole := fun_mk (st := s_is_whole) l_is_whole c_is_whole k_is_whole
  have B_is_whole := F_is_whole.binds (ps := P_is_whole) fun _ _ _ _ _ _ us hl => match us, hl with | [_], _ => rfl
  have F_is_count := fun_mk (st := s_is_count) l_is_count c_is_count k_is_count
  have B_is_count := F_is_count.binds (ps := P_is_count) fun _ _ _ _ _ _ us hl => match us, hl with | [_], _ => rfl
  have F_is_whole_to := fun_mk (st := s_is_whole_to) l_is_whole_to c_is_whole_to k_is_whole_to
  have B_is_whole_to := F_is_whole_to.binds (ps := P_is_whole_to) fun _ _ _ _ _ _ us hl => match us, hl with | [_, _], _ => rfl
  have F_consists_of := fun_mk (st := s_consists_of) l_consists_of c_consists_of k_consists_of
  have B_consists_of := F_consists_of.binds (ps := P_consists_of) fun _ _ _ _ _ _ us hl => match us, hl with | [_, _], _ => rfl
  have F_is_string_of := fun_mk (st := s_is_string_of) l_is_string_of c_is_string_of k_is_string_of
  have B_is_string_of := F_is_string_of.binds (ps := P_is_string_of) fun _ _ _ _ _ _ us hl => match us, hl with | [_, _, _], _ => rfl
  have F_number_in := fun_mk (st := s_number_in) l_number_in c_number_in k_number_in
  have B_number_in := F_number_in.binds (ps := P_number_in) fun _ _ _ _ _ _ us hl => match us, hl with | [_, _], _ => rfl
  have F_stage_of_text := fun_mk (st := s_stage_of_text) l_stage_of_text c_stage_of_text k_stage_of_text
  have B_stage_of_text := F_stage_of_text.binds (ps := P_stage_of_text) fun _ _ _ _ _ _ us hl => match us, hl with | [_], _ => rfl
  have F_parts_of_text := fun_mk (st := s_parts_of_text) l_parts_of_text c_parts_of_text k_parts_of_text
  have B_parts_of_text := F_parts_of_text.binds (ps := P_parts_of_text) fun _ _ _ _ _ _ us hl => match us, hl with | [_], _ => rfl
  have F_rank_of := fun_mk (st := s_rank_of) l_rank_of c_rank_of k_rank_of
  have B_rank_of := F_rank_of.binds (ps := P_rank_of) fun _ _ _ _ _ _ us hl => match us, hl with | [_, _], _ => rfl
  have F_numbers_at := fun_mk (st := s_numbers_at) l_numbers_at c_numbers_at k_numbers_at
  have B_numbers_at := F_numbers_at.binds (ps := P_numbers_at) fun _ _ _ _ _ _ us hl => match us, hl with | [_], _ => rfl
  have F_text_of_numbers := fun_mk (st := s_text_of_numbers) l_text_of_numbers c_text_of_numbers k_text_of_numbers
  have B_text_of_numbers := F_text_of_numbers.binds (ps := P_text_of_numbers) fun _ _ _ _ _ _ us hl => match us, hl with | [_], _ => rfl
  have F_text_of_stage := fun_mk (st := s_text_of_stage) l_text_of_stage c_text_of_stage k_text_of_stage
  have B_text_of_stage := F_text_of_stage.binds (ps := P_text_of_stage) fun _ _ _ _ _ _ us hl => match us, hl with | [_], _ => rfl
  have F_text_at := fun_mk (st := s_text_at) l_text_at c_text_at k_text_at
  have B_text_at := F_text_at.binds (ps := P_text_at) fun _ _ _ _ _ _ us hl => match us, hl with | [_], _ => rfl
  have F_Version_init := fun_mk (st := s_Version_init) l_Version_init c_Version_init k_Version_init
  have B_Version_init := F_Version_init.binds (ps := P_Version_init) fun _ _ _ _ _ _ us hl => match us, hl with | [_, _], _ => rfl
  have F_Version_at := fun_mk (st := s_Version_at) l_Version_at c_Version_at k_Version_at
  have B_Version_at := F_Version_at.binds (ps := P_Version_at) fun _ _ _ _ _ _ us hl => match us, hl with | [_, _], _ => rfl
  have F_Version_rank := fun_mk (st := s_Version_rank) l_Version_rank c_Version_rank k_Version_rank
  have B_Version_rank := F_Version_rank.binds (ps := P_Version_rank) fun _ _ _ _ _ _ us hl => match us, hl with | [_], _ => rfl
  have F_Version_eq := fun_mk (st := s_Version_eq) l_Version_eq c_Version_eq k_Version_eq
  have B_Version_eq := F_Version_eq.binds (ps := P_Version_eq) fun _ _ _ _ _ _ us hl => match us, hl with | [_, _], _ => rfl
  have F_Version_lt := fun_mk (st := s_Version_lt) l_Version_lt c_Version_lt k_Version_lt
  have B_Version_lt := F_Version_lt.binds (ps := P_Version_lt) fun _ _ _ _ _ _ us hl => match us, hl with | [_, _], _ => rfl
  have F_Version_le := fun_mk (st := s_Version_le) l_Version_le c_Version_le k_Version_le
  have B_Version_le := F_Version_le.binds (ps := P_Version_le) fun _ _ _ _ _ _ us hl => match us, hl with | [_, _], _ => rfl
  have F_Version_gt := fun_mk (st := s_Version_gt) l_Version_gt c_Version_gt k_Version_gt
  have B_Version_gt := F_Version_gt.binds (ps := P_Version_gt) fun _ _ _ _ _ _ us hl => match us, hl with | [_, _], _ => rfl
  have F_Version_ge := fun_mk (st := s_Version_ge) l_Version_ge c_Version_ge k_Version_ge
  have B_Version_ge := F_Version_ge.binds (ps := P_Version_ge) fun _ _ _ _ _ _ us hl => match us, hl with | [_, _], _ => rfl
  have F_Version_str := fun_mk (st := s_Version_str) l_Version_str c_Version_str k_Version_str
  have B_Version_str := F_Version_str.binds (ps := P_Version_str) fun _ _ _ _ _ _ us hl => match us, hl with | [_], _ => rfl
  have F_begin := fun_mk (st := s_begin) l_begin c_begin k_begin
  have B_begin := F_begin.binds (ps := P_begin) fun _ _ _ _ _ _ us hl => match us, hl with | [_], _ => rfl
  have F_mixed := fun_mk (st := s_mixed) l_mixed c_mixed k_mixed
  have B_mixed := F_mixed.binds (ps := P_mixed) fun _ _ _ _ _ _ us hl => match us, hl with | [_, _], _ => rfl
  have F_next := fun_mk (st := s_next) l_next c_next k_next
  have B_next := F_next.binds (ps := P_next) fun _ _ _ _ _ _ us hl => match us, hl with | [_, _], _ => rfl
  have F_number := fun_mk (st := s_number) l_number c_number k_number
  have B_number := F_number.binds (ps := P_number) fun _ _ _ _ _ _ us hl => match us, hl with | [_], _ => rfl
  have F_parts := fun_mk (st := s_parts) l_parts c_parts k_parts
  have B_parts := F_parts.binds (ps := P_parts) fun _ _ _ _ _ _ us hl => match us, hl with | [_], _ => rfl
  have F_written := fun_mk (st := s_written) l_written c_written k_written
  have B_written := F_written.binds (ps := P_written) fun _ _ _ _ _ _ us hl => match us, hl with | [_], _ => rfl
  have F_row := fun_mk (st := s_row) l_row c_row k_row
  have B_row := F_row.binds (ps := P_row) fun _ _ _ _ _ _ us hl => match us, hl with | [_], _ => rfl
  have F_rank := fun_mk (st := s_rank) l_rank c_rank k_rank
  have B_rank := F_rank.binds (ps := P_rank) fun _ _ _ _ _ _ us hl => match us, hl with | [_], _ => rfl
  have F_parts_at := fun_mk (st := s_parts_at) l_parts_at c_parts_at k_parts_at
  have B_parts_at := F_parts_at.binds (ps := P_parts_at) fun _ _ _ _ _ _ us hl => match us, hl with | [_], _ => rfl
  have F_short := fun_mk (st := s_short) l_short c_short k_short
  have B_short := F_short.binds (ps := P_short) fun _ _ _ _ _ _ us hl => match us, hl with | [_], _ => rfl
  have F_near := fun_mk (st := s_near) l_near c_near k_near
  have B_near := F_near.binds (ps := P_near) fun _ _ _ _ _ _ us hl => match us, hl with | [_, _], _ => rfl
  have F_pair_right := fun_mk (st := s_pair_right) l_pair_right c_pair_right k_pair_right
  have B_pair_right := F_pair_right.binds (ps := P_pair_right) fun _ _ _ _ _ _ us hl => match us, hl with | [_, _], _ => rfl
  have F_next_right := fun_mk (st := s_next_right) l_next_right c_next_right k_next_right
  have B_next_right := F_next_right.binds (ps := P_next_right) fun _ _ _ _ _ _ us hl => match us, hl with | [_], _ => rfl
  have F_ends_right := fun_mk (st := s_ends_right) l_ends_right c_ends_right k_ends_right
  have B_ends_right := F_ends_right.binds (ps := P_ends_right) fun _ _ _ _ _ _ us hl => match us, hl with | [], _ => rfl
  have F_law := fun_mk (st := s_law) l_law c_law k_law
  have B_law := F_law.binds (ps := P_law) fun _ _ _ _ _ _ us hl => match us, hl with | [_], _ => rfl
  have T : Tex K mg { a_is_whole := f_is_whole, d_is_whole := (PySem.W.fnOf "is_whole" "is_whole" (defArgs s_is_whole) (defBody s_is_whole) (defScope s_is_whole) .none kV_is_whole dc_is_whole pm_is_whole an_is_whole cd_is_whole ct_is_whole), a_is_count := f_is_count, d_is_count := (PySem.W.fnOf "is_count" "is_count" (defArgs s_is_count) (defBody s_is_count) (defScope s_is_count) .none kV_is_count dc_is_count pm_is_count an_is_count cd_is_count ct_is_count), a_is_whole_to := f_is_whole_to, d_is_whole_to := (PySem.W.fnOf "is_whole_to" "is_whole_to" (defArgs s_is_whole_to) (defBody s_is_whole_to) (defScope s_is_whole_to) .none kV_is_whole_to dc_is_whole_to pm_is_whole_to an_is_whole_to cd_is_whole_to ct_is_whole_to), a_consists_of := f_consists_of, d_consists_of := (PySem.W.fnOf "consists_of" "consists_of" (defArgs s_consists_of) (defBody s_consists_of) (defScope s_consists_of) .none kV_consists_of dc_consists_of pm_consists_of an_consists_of cd_consists_of ct_consists_of), a_is_string_of := f_is_string_of, d_is_string_of := (PySem.W.fnOf "is_string_of" "is_string_of" (defArgs s_is_string_of) (defBody s_is_string_of) (defScope s_is_string_of) .none kV_is_string_of dc_is_string_of pm_is_string_of an_is_string_of cd_is_string_of ct_is_string_of), a_number_in := f_number_in, d_number_in := (PySem.W.fnOf "number_in" "number_in" (defArgs s_number_in) (defBody s_number_in) (defScope s_number_in) .none kV_number_in dc_number_in pm_number_in an_number_in cd_number_in ct_number_in), a_stage_of_text := f_stage_of_text, d_stage_of_text := (PySem.W.fnOf "stage_of_text" "stage_of_text" (defArgs s_stage_of_text) (defBody s_stage_of_text) (defScope s_stage_of_text) .none kV_stage_of_text dc_stage_of_text pm_stage_of_text an_stage_of_text cd_stage_of_text ct_stage_of_text), a_parts_of_text := f_parts_of_text, d_parts_of_text := (PySem.W.fnOf "parts_of_text" "parts_of_text" (defArgs s_parts_of_text) (defBody s_parts_of_text) (defScope s_parts_of_text) .none kV_parts_of_text dc_parts_of_text pm_parts_of_text an_parts_of_text cd_parts_of_text ct_parts_of_text), a_rank_of := f_rank_of, d_rank_of := (PySem.W.fnOf "rank_of" "rank_of" (defArgs s_rank_of) (defBody s_rank_of) (defScope s_rank_of) .none kV_rank_of dc_rank_of pm_rank_of an_rank_of cd_rank_of ct_rank_of), a_numbers_at := f_numbers_at, d_numbers_at := (PySem.W.fnOf "numbers_at" "numbers_at" (defArgs s_numbers_at) (defBody s_numbers_at) (defScope s_numbers_at) .none kV_numbers_at dc_numbers_at pm_numbers_at an_numbers_at cd_numbers_at ct_numbers_at), a_text_of_numbers := f_text_of_numbers, d_text_of_numbers := (PySem.W.fnOf "text_of_numbers" "text_of_numbers" (defArgs s_text_of_numbers) (defBody s_text_of_numbers) (defScope s_text_of_numbers) .none kV_text_of_numbers dc_text_of_numbers pm_text_of_numbers an_text_of_numbers cd_text_of_numbers ct_text_of_numbers), a_text_of_stage := f_text_of_stage, d_text_of_stage := (PySem.W.fnOf "text_of_stage" "text_of_stage" (defArgs s_text_of_stage) (defBody s_text_of_stage) (defScope s_text_of_stage) .none kV_text_of_stage dc_text_of_stage pm_text_of_stage an_text_of_stage cd_text_of_stage ct_text_of_stage), a_text_at := f_text_at, d_text_at := (PySem.W.fnOf "text_at" "text_at" (defArgs s_text_at) (defBody s_text_at) (defScope s_text_at) .none kV_text_at dc_text_at pm_text_at an_text_at cd_text_at ct_text_at), a_Version_init := f_Version_init, d_Version_init := (PySem.W.fnOf "__init__" "Version.__init__" (defArgs s_Version_init) (defBody s_Version_init) (defScope s_Version_init) .none kV_Version_init dc_Version_init pm_Version_init an_Version_init cd_Version_init ct_Version_init), a_Version_at := f_Version_at, d_Version_at := (PySem.W.fnOf "at" "Version.at" (defArgs s_Version_at) (defBody s_Version_at) (defScope s_Version_at) .none kV_Version_at dc_Version_at pm_Version_at an_Version_at cd_Version_at ct_Version_at), a_Version_rank := f_Version_rank, d_Version_rank := (PySem.W.fnOf "rank" "Version.rank" (defArgs s_Version_rank) (defBody s_Version_rank) (defScope s_Version_rank) .none kV_Version_rank dc_Version_rank pm_Version_rank an_Version_rank cd_Version_rank ct_Version_rank), a_Version_eq := f_Version_eq, d_Version_eq := (PySem.W.fnOf "__eq__" "Version.__eq__" (defArgs s_Version_eq) (defBody s_Version_eq) (defScope s_Version_eq) .none kV_Version_eq dc_Version_eq pm_Version_eq an_Version_eq cd_Version_eq ct_Version_eq), a_Version_lt := f_Version_lt, d_Version_lt := (PySem.W.fnOf "__lt__" "Version.__lt__" (defArgs s_Version_lt) (defBody s_Version_lt) (defScope s_Version_lt) .none kV_Version_lt dc_Version_lt pm_Version_lt an_Version_lt cd_Version_lt ct_Version_lt), a_Version_le := f_Version_le, d_Version_le := (PySem.W.fnOf "__le__" "Version.__le__" (defArgs s_Version_le) (defBody s_Version_le) (defScope s_Version_le) .none kV_Version_le dc_Version_le pm_Version_le an_Version_le cd_Version_le ct_Version_le), a_Version_gt := f_Version_gt, d_Version_gt := (PySem.W.fnOf "__gt__" "Version.__gt__" (defArgs s_Version_gt) (defBody s_Version_gt) (defScope s_Version_gt) .none kV_Version_gt dc_Version_gt pm_Version_gt an_Version_gt cd_Version_gt ct_Version_gt), a_Version_ge := f_Version_ge, d_Version_ge := (PySem.W.fnOf "__ge__" "Version.__ge__" (defArgs s_Version_ge) (defBody s_Version_ge) (defScope s_Version_ge) .none kV_Version_ge dc_Version_ge pm_Version_ge an_Version_ge cd_Version_ge ct_Version_ge), a_Version_str := f_Version_str, d_Version_str := (PySem.W.fnOf "__str__" "Version.__str__" (defArgs s_Version_str) (defBody s_Version_str) (defScope s_Version_str) .none kV_Version_str dc_Version_str pm_Version_str an_Version_str cd_Version_str ct_Version_str), a_begin := f_begin, d_begin := (PySem.W.fnOf "_law_begin" "_law_begin" (defArgs s_begin) (defBody s_begin) (defScope s_begin) .none kV_begin dc_begin pm_begin an_begin cd_begin ct_begin), a_mixed := f_mixed, d_mixed := (PySem.W.fnOf "_law_mixed" "_law_mixed" (defArgs s_mixed) (defBody s_mixed) (defScope s_mixed) .none kV_mixed dc_mixed pm_mixed an_mixed cd_mixed ct_mixed), a_next := f_next, d_next := (PySem.W.fnOf "_law_next" "_law_next" (defArgs s_next) (defBody s_next) (defScope s_next) .none kV_next dc_next pm_next an_next cd_next ct_next), a_number := f_number, d_number := (PySem.W.fnOf "_law_number" "_law_number" (defArgs s_number) (defBody s_number) (defScope s_number) .none kV_number dc_number pm_number an_number cd_number ct_number), a_parts := f_parts, d_parts := (PySem.W.fnOf "_law_parts" "_law_parts" (defArgs s_parts) (defBody s_parts) (defScope s_parts) .none kV_parts dc_parts pm_parts an_parts cd_parts ct_parts), a_written := f_written, d_written := (PySem.W.fnOf "_law_written" "_law_written" (defArgs s_written) (defBody s_written) (defScope s_written) .none kV_written dc_written pm_written an_written cd_written ct_written), a_row := f_row, d_row := (PySem.W.fnOf "_law_row" "_law_row" (defArgs s_row) (defBody s_row) (defScope s_row) .none kV_row dc_row pm_row an_row cd_row ct_row), a_rank := f_rank, d_rank := (PySem.W.fnOf "_law_rank" "_law_rank" (defArgs s_rank) (defBody s_rank) (defScope s_rank) .none kV_rank dc_rank pm_rank an_rank cd_rank ct_rank), a_parts_at := f_parts_at, d_parts_at := (PySem.W.fnOf "_law_parts_at" "_law_parts_at" (defArgs s_parts_at) (defBody s_parts_at) (defScope s_parts_at) .none kV_parts_at dc_parts_at pm_parts_at an_parts_at cd_parts_at ct_parts_at), a_short := f_short, d_short := (PySem.W.fnOf "_law_short" "_law_short" (defArgs s_short) (defBody s_short) (defScope s_short) .none kV_short dc_short pm_short an_short cd_short ct_short), a_near := f_near, d_near := (PySem.W.fnOf "_law_near" "_law_near" (defArgs s_near) (defBody s_near) (defScope s_near) .none kV_near dc_near pm_near an_near cd_near ct_near), a_pair_right := f_pair_right, d_pair_right := (PySem.W.fnOf "_law_pair_right" "_law_pair_right" (defArgs s_pair_right) (defBody s_pair_right) (defScope s_pair_right) .none kV_pair_right dc_pair_right pm_pair_right an_pair_right cd_pair_right ct_pair_right), a_next_right := f_next_right, d_next_right := (PySem.W.fnOf "_law_next_right" "_law_next_right" (defArgs s_next_right) (defBody s_next_right) (defScope s_next_right) .none kV_next_right dc_next_right pm_next_right an_next_right cd_next_right ct_next_right), a_ends_right := f_ends_right, d_ends_right := (PySem.W.fnOf "_law_ends_right" "_law_ends_right" (defArgs s_ends_right) (defBody s_ends_right) (defScope s_ends_right) .none kV_ends_right dc_ends_right pm_ends_right an_ends_right cd_ends_right ct_ends_right), a_law := f_law, d_law := (PySem.W.fnOf "law" "law" (defArgs s_law) (defBody s_law) (defScope s_law) .none kV_law dc_law pm_law an_law cd_law ct_law), a_Version := f_Version, p_Version_at := p_Version_at, p_Version_rank := p_Version_rank, t_Version_LAST := t_Version_LAST, t_DIGITS := t_DIGITS, k_STAGES := k_STAGES, t_FINAL := t_FINAL, t_WIDTH := t_WIDTH, t_GREATEST := t_GREATEST } := { is_whole_F := F_is_whole, is_whole_g := PySem.W.mg_of X G n_is_whole, is_whole_b := B_is_whole, is_count_F := F_is_count, is_count_g := PySem.W.mg_of X G n_is_count, is_count_b := B_is_count, is_whole_to_F := F_is_whole_to, is_whole_to_g := PySem.W.mg_of X G n_is_whole_to, is_whole_to_b := B_is_whole_to, consists_of_F := F_consists_of, consists_of_g := PySem.W.mg_of X G n_consists_of, consists_of_b := B_consists_of, is_string_of_F := F_is_string_of, is_string_of_g := PySem.W.mg_of X G n_is_string_of, is_string_of_b := B_is_string_of, number_in_F := F_number_in, number_in_g := PySem.W.mg_of X G n_number_in, number_in_b := B_number_in, stage_of_text_F := F_stage_of_text, stage_of_text_g := PySem.W.mg_of X G n_stage_of_text, stage_of_text_b := B_stage_of_text, parts_of_text_F := F_parts_of_text, parts_of_text_g := PySem.W.mg_of X G n_parts_of_text, parts_of_text_b := B_parts_of_text, rank_of_F := F_rank_of, rank_of_g := PySem.W.mg_of X G n_rank_of, rank_of_b := B_rank_of, numbers_at_F := F_numbers_at, numbers_at_g := PySem.W.mg_of X G n_numbers_at, numbers_at_b := B_numbers_at, text_of_numbers_F := F_text_of_numbers, text_of_numbers_g := PySem.W.mg_of X G n_text_of_numbers, text_of_numbers_b := B_text_of_numbers, text_of_stage_F := F_text_of_stage, text_of_stage_g := PySem.W.mg_of X G n_text_of_stage, text_of_stage_b := B_text_of_stage, text_at_F := F_text_at, text_at_g := PySem.W.mg_of X G n_text_at, text_at_b := B_text_at, Version_init_F := F_Version_init, Version_init_b := B_Version_init, Version_at_F := F_Version_at, Version_at_b := B_Version_at, Version_rank_F := F_Version_rank, Version_rank_b := B_Version_rank, Version_eq_F := F_Version_eq, Version_eq_b := B_Version_eq, Version_lt_F := F_Version_lt, Version_lt_b := B_Version_lt, Version_le_F := F_Version_le, Version_le_b := B_Version_le, Version_gt_F := F_Version_gt, Version_gt_b := B_Version_gt, Version_ge_F := F_Version_ge, Version_ge_b := B_Version_ge, Version_str_F := F_Version_str, Version_str_b := B_Version_str, begin_F := F_begin, begin_g := PySem.W.mg_of X G n_begin, begin_b := B_begin, mixed_F := F_mixed, mixed_g := PySem.W.mg_of X G n_mixed, mixed_b := B_mixed, next_F := F_next, next_g := PySem.W.mg_of X G n_next, next_b := B_next, number_F := F_number, number_g := PySem.W.mg_of X G n_number, number_b := B_number, parts_F := F_parts, parts_g := PySem.W.mg_of X G n_parts, parts_b := B_parts, written_F := F_written, written_g := PySem.W.mg_of X G n_written, written_b := B_written, row_F := F_row, row_g := PySem.W.mg_of X G n_row, row_b := B_row, rank_F := F_rank, rank_g := PySem.W.mg_of X G n_rank, rank_b := B_rank, parts_at_F := F_parts_at, parts_at_g := PySem.W.mg_of X G n_parts_at, parts_at_b := B_parts_at, short_F := F_short, short_g := PySem.W.mg_of X G n_short, short_b := B_short, near_F := F_near, near_g := PySem.W.mg_of X G n_near, near_b := B_near, pair_right_F := F_pair_right, pair_right_g := PySem.W.mg_of X G n_pair_right, pair_right_b := B_pair_right, next_right_F := F_next_right, next_right_g := PySem.W.mg_of X G n_next_right, next_right_b := B_next_right, ends_right_F := F_ends_right, ends_right_g := PySem.W.mg_of X G n_ends_right, ends_right_b := B_ends_right, law_F := F_law, law_g := PySem.W.mg_of X G n_law, law_b := B_law, Version_g := PySem.W.mg_of X G n_Version, Version_cl := ⟨pg_Version, hd_Version, po_Version, sa_Version⟩, Version_mk := ⟨mk_Version, at_Version_init, fn_Version_init, kc_Version⟩, Version_rd := ⟨rd_Version, ga_Version⟩, Version_si := ⟨ca_Version, cn_Version, ct_Version, cm_Version⟩, Version_nf := nf_Version, Version_n_rank := na_Version_rank, Version_init_at := at_Version_init, Version_init_fn := fn_Version_init, Version_at_c := ⟨at_Version_at, ⟨_, rc_Version_at⟩, fi_Version_at⟩, Version_rank_p := ⟨at_Version_rank, ge_Version_rank, tk_Version_rank, _, rc_Version_rank⟩, Version_eq_at := at_Version_eq, Version_eq_fn := fn_Version_eq, Version_lt_at := at_Version_lt, Version_lt_fn := fn_Version_lt, Version_le_at := at_Version_le, Version_le_fn := fn_Version_le, Version_gt_at := at_Version_gt, Version_gt_fn := fn_Version_gt, Version_ge_at := at_Version_ge, Version_ge_fn := fn_Version_ge, Version_str_at := at_Version_str, Version_str_fn := fn_Version_str, Version_LAST := ⟨cv_Version_LAST, _, rfl⟩, c_DIGITS := PySem.W.mg_of X G g_DIGITS, c_STAGES := PySem.W.mg_of X G g_STAGES, v_STAGES := .inr ⟨_, _, _, w_STAGES, rfl, rfl, (by show 3 ≤ sizeLine; decide), .cons ⟨_, rfl⟩ (.cons ⟨_, rfl⟩ (.cons ⟨_, rfl⟩ (.nil)))⟩, c_FINAL := PySem.W.mg_of X G g_FINAL, c_WIDTH := PySem.W.mg_of X G g_WIDTH, c_GREATEST := PySem.W.mg_of X G g_GREATEST, b_all := PySem.W.mg_none_of X G z_all, b_bool := PySem.W.mg_none_of X G z_bool, b_enumerate := PySem.W.mg_none_of X G z_enumerate, b_int := PySem.W.mg_none_of X G z_int, b_isinstance := PySem.W.mg_none_of X G z_isinstance, b_len := PySem.W.mg_none_of X G z_len, b_list := PySem.W.mg_none_of X G z_list, b_max := PySem.W.mg_none_of X G z_max, b_min := PySem.W.mg_none_of X G z_min, b_range := PySem.W.mg_none_of X G z_range, b_repr := PySem.W.mg_none_of X G z_repr, b_str := PySem.W.mg_none_of X G z_str, b_tuple := PySem.W.mg_none_of X G z_tuple }
  exact ⟨_, fun s v => .of_eq rfl, fun base _ _ => ok_law T⟩
end Pk
open PySem PySem.W PyProof.Rows
set_option maxRecDepth 100000 in
set_option maxHeartbeats 0 in
theorem PySem.Challenge.cw_parcelindex_k04_whole_ranks_and_order_holds : PySem.Challenge.rw_parcelindex_k04_whole_ranks_and_order.Holds := by
  w_on; o_law; k_head; (case hw => w_witness2)
  k_fill
  refine Pk.walkG (l := PySem.Challenge.rw_parcelindex_k04_whole_ranks_and_order) (k := 12) (x := "_law_script") (sp := Pk.spLaw) rfl rfl ⟨rfl, by decide, by decide⟩ (fun w h Y => PySem.W.kIn_of Y) ?F (fun K H a ns hl hS => ⟨a, ns, rfl, hS, hl, fun _ => rfl⟩)
  case F =>
    intro w mg fa h KX G hmg
    refine' Pk.all_mk KX G hmg ?n_is_whole ?l_is_whole ?c_is_whole ?k_is_whole ?n_is_count ?l_is_count ?c_is_count ?k_is_count ?n_is_whole_to ?l_is_whole_to ?c_is_whole_to ?k_is_whole_to ?n_consists_of ?l_consists_of ?c_consists_of ?k_consists_of ?n_is_string_of ?l_is_string_of ?c_is_string_of ?k_is_string_of ?n_number_in ?l_number_in ?c_number_in ?k_number_in ?n_stage_of_text ?l_stage_of_text ?c_stage_of_text ?k_stage_of_text ?n_parts_of_text ?l_parts_of_text ?c_parts_of_text ?k_parts_of_text ?n_rank_of ?l_rank_of ?c_rank_of ?k_rank_of ?n_numbers_at ?l_numbers_at ?c_numbers_at ?k_numbers_at ?n_text_of_numbers ?l_text_of_numbers ?c_text_of_numbers ?k_text_of_numbers ?n_text_of_stage ?l_text_of_stage ?c_text_of_stage ?k_text_of_stage ?n_text_at ?l_text_at ?c_text_at ?k_text_at ?n_Version ?at_Version_init ?l_Version_init ?c_Version_init ?k_Version_init ?at_Version_at ?rc_Version_at ?l_Version_at ?c_Version_at ?k_Version_at ?at_Version_rank ?rc_Version_rank ?l_Version_rank ?c_Version_rank ?k_Version_rank ?at_Version_eq ?l_Version_eq ?c_Version_eq ?k_Version_eq ?at_Version_lt ?l_Version_lt ?c_Version_lt ?k_Version_lt ?at_Version_le ?l_Version_le ?c_Version_le ?k_Version_le ?at_Version_gt ?l_Version_gt ?c_Version_gt ?k_Version_gt ?at_Version_ge ?l_Version_ge ?c_Version_ge ?k_Version_ge ?at_Version_str ?l_Version_str ?c_Version_str ?k_Version_str ?n_begin ?l_begin ?c_begin ?k_begin ?n_mixed ?l_mixed ?c_mixed ?k_mixed ?n_next ?l_next ?c_next ?k_next ?n_number ?l_number ?c_number ?k_number ?n_parts ?l_parts ?c_parts ?k_parts ?n_written ?l_written ?c_written ?k_written ?n_row ?l_row ?c_row ?k_row ?n_rank ?l_rank ?c_rank ?k_rank ?n_parts_at ?l_parts_at ?c_parts_at ?k_parts_at ?n_short ?l_short ?c_short ?k_short ?n_near ?l_near ?c_near ?k_near ?n_pair_right ?l_pair_right ?c_pair_right ?k_pair_right ?n_next_right ?l_next_right ?c_next_right ?k_next_right ?n_ends_right ?l_ends_right ?c_ends_right ?k_ends_right ?n_law ?l_law ?c_law ?k_law ?pg_Version ?hd_Version ?po_Version ?sa_Version ?mk_Version ?kc_Version ?rd_Version ?ga_Version ?ca_Version ?cn_Version ?ct_Version ?cm_Version ?nf_Version ?fn_Version_init ?na_Version_rank ?fi_Version_at ?ge_Version_rank ?tk_Version_rank ?fn_Version_eq ?fn_Version_lt ?fn_Version_le ?fn_Version_gt ?fn_Version_ge ?fn_Version_str ?cv_Version_LAST ?g_DIGITS ?g_STAGES ?w_STAGES ?g_FINAL ?g_WIDTH ?g_GREATEST ?z_all ?z_bool ?z_enumerate ?z_int ?z_isinstance ?z_len ?z_list ?z_max ?z_min ?z_range ?z_repr ?z_str ?z_tuple
    (case n_is_whole => k_is)
    (case l_is_whole => k_is)
    (case c_is_whole => k_is)
    (case k_is_whole => k_is)
    (case n_is_count => k_is)
    (case l_is_count => k_is)
    (case c_is_count => k_is)
    (case k_is_count => k_is)
    (case n_is_whole_to => k_is)
    (case l_is_whole_to => k_is)
    (case c_is_whole_to => k_is)
    (case k_is_whole_to => k_is)
    (case n_consists_of => k_is)
    (case l_consists_of => k_is)
    (case c_consists_of => k_is)
    (case k_consists_of => k_is)
    (case n_is_string_of => k_is)
    (case l_is_string_of => k_is)
    (case c_is_string_of => k_is)
    (case k_is_string_of => k_is)
    (case n_number_in => k_is)
    (case l_number_in => k_is)
    (case c_number_in => k_is)
    (case k_number_in => k_is)
    (case n_stage_of_text => k_is)
    (case l_stage_of_text => k_is)
    (case c_stage_of_text => k_is)
    (case k_stage_of_text => k_is)
    (case n_parts_of_text => k_is)
    (case l_parts_of_text => k_is)
    (case c_parts_of_text => k_is)
    (case k_parts_of_text => k_is)
    (case n_rank_of => k_is)
    (case l_rank_of => k_is)
    (case c_rank_of => k_is)
    (case k_rank_of => k_is)
    (case n_numbers_at => k_is)
    (case l_numbers_at => k_is)
    (case c_numbers_at => k_is)
    (case k_numbers_at => k_is)
    (case n_text_of_numbers => k_is)
    (case l_text_of_numbers => k_is)
    (case c_text_of_numbers => k_is)
    (case k_text_of_numbers => k_is)
    (case n_text_of_stage => k_is)
    (case l_text_of_stage => k_is)
    (case c_text_of_stage => k_is)
    (case k_text_of_stage => k_is)
    (case n_text_at => k_is)
    (case l_text_at => k_is)
    (case c_text_at => k_is)
    (case k_text_at => k_is)
    (case n_Version => k_is)
    (case at_Version_init => k_is)
    (case l_Version_init => k_is)
    (case c_Version_init => k_is)
    (case k_Version_init => k_is)
    (case at_Version_at => k_is)
    (case rc_Version_at => k_is)
    (case l_Version_at => k_is)
    (case c_Version_at => k_is)
    (case k_Version_at => k_is)
    (case at_Version_rank => k_is)
    (case rc_Version_rank => k_is)
    (case l_Version_rank => k_is)
    (case c_Version_rank => k_is)
    (case k_Version_rank => k_is)
    (case at_Version_eq => k_is)
    (case l_Version_eq => k_is)
    (case c_Version_eq => k_is)
    (case k_Version_eq => k_is)
    (case at_Version_lt => k_is)
    (case l_Version_lt => k_is)
    (case c_Version_lt => k_is)
    (case k_Version_lt => k_is)
    (case at_Version_le => k_is)
    (case l_Version_le => k_is)
    (case c_Version_le => k_is)
    (case k_Version_le => k_is)
    (case at_Version_gt => k_is)
    (case l_Version_gt => k_is)
    (case c_Version_gt => k_is)
    (case k_Version_gt => k_is)
    (case at_Version_ge => k_is)
    (case l_Version_ge => k_is)
    (case c_Version_ge => k_is)
    (case k_Version_ge => k_is)
    (case at_Version_str => k_is)
    (case l_Version_str => k_is)
    (case c_Version_str => k_is)
    (case k_Version_str => k_is)
    (case n_begin => k_is)
    (case l_begin => k_is)
    (case c_begin => k_is)
    (case k_begin => k_is)
    (case n_mixed => k_is)
    (case l_mixed => k_is)
    (case c_mixed => k_is)
    (case k_mixed => k_is)
    (case n_next => k_is)
    (case l_next => k_is)
    (case c_next => k_is)
    (case k_next => k_is)
    (case n_number => k_is)
    (case l_number => k_is)
    (case c_number => k_is)
    (case k_number => k_is)
    (case n_parts => k_is)
    (case l_parts => k_is)
    (case c_parts => k_is)
    (case k_parts => k_is)
    (case n_written => k_is)
    (case l_written => k_is)
    (case c_written => k_is)
    (case k_written => k_is)
    (case n_row => k_is)
    (case l_row => k_is)
    (case c_row => k_is)
    (case k_row => k_is)
    (case n_rank => k_is)
    (case l_rank => k_is)
    (case c_rank => k_is)
    (case k_rank => k_is)
    (case n_parts_at => k_is)
    (case l_parts_at => k_is)
    (case c_parts_at => k_is)
    (case k_parts_at => k_is)
    (case n_short => k_is)
    (case l_short => k_is)
    (case c_short => k_is)
    (case k_short => k_is)
    (case n_near => k_is)
    (case l_near => k_is)
    (case c_near => k_is)
    (case k_near => k_is)
    (case n_pair_right => k_is)
    (case l_pair_right => k_is)
    (case c_pair_right => k_is)
    (case k_pair_right => k_is)
    (case n_next_right => k_is)
    (case l_next_right => k_is)
    (case c_next_right => k_is)
    (case k_next_right => k_is)
    (case n_ends_right => k_is)
    (case l_ends_right => k_is)
    (case c_ends_right => k_is)
    (case k_ends_right => k_is)
    (case n_law => k_is)
    (case l_law => k_is)
    (case c_law => k_is)
    (case k_law => k_is)
    (case pg_Version => k_is)
    (case hd_Version => k_is)
    (case po_Version => k_is)
    (case sa_Version => k_is)
    (case mk_Version => k_is)
    (case kc_Version => k_is)
    (case rd_Version => k_is)
    (case ga_Version => k_is)
    (case ca_Version => k_is)
    (case cn_Version => k_is)
    (case ct_Version => k_is)
    (case cm_Version => k_is)
    (case nf_Version => k_is)
    (case fn_Version_init => k_is)
    (case na_Version_rank => k_is)
    (case fi_Version_at => k_is)
    (case ge_Version_rank => k_is)
    (case tk_Version_rank => k_is)
    (case fn_Version_eq => k_is)
    (case fn_Version_lt => k_is)
    (case fn_Version_le => k_is)
    (case fn_Version_gt => k_is)
    (case fn_Version_ge => k_is)
    (case fn_Version_str => k_is)
    (case cv_Version_LAST => k_is)
    (case g_DIGITS => k_is)
    (case g_STAGES => k_is)
    (case w_STAGES => k_is)
    (case g_FINAL => k_is)
    (case g_WIDTH => k_is)
    (case g_GREATEST => k_is)
    (case z_all => k_is)
    (case z_bool => k_is)
    (case z_enumerate => k_is)
    (case z_int => k_is)
    (case z_isinstance => k_is)
    (case z_len => k_is)
    (case z_list => k_is)
    (case z_max => k_is)
    (case z_min => k_is)
    (case z_range => k_is)
    (case z_repr => k_is)
    (case z_str => k_is)
    (case z_tuple => k_is)
